/-
  Layer 7 and what it stands on, part 15 (CopyS).
-/
import Derived.Test.YtoaponaljkhlfaaGreatDoorPz1
import Derived.Test.YtoaponaljkhlfaaGreatDoorPz13
import Derived.Test.YtoaponaljkhlfaaGreatDoorPz14
namespace Go.Proofs.YtoaponaljkhlfaaGreatDoor
section
open Go Go.RowKit Go.Shelf
open Go.Lib (hid)
attribute [local go_sem] Oper.semAt_some
set_option maxRecDepth 100000
theorem keeps_set (w : World) (p : Addr) (u : Value) : KeepsOthers w (w.setCell p u) := KeepsOthers.setCell w p u
theorem keeps_cell {w : World} {B g i : Nat} {t : TypeId} {v : Value} (h : Boxed w B t v) (hne : B ≠ g) (u : Value) : Boxed (w.setCell ⟨g, i, none⟩ u) B t v := (Below.heap_setCell w ⟨g, i, none⟩ u B hne).trans h
set_option maxHeartbeats 4000000 in
theorem copy_callsS (w : World) (R : Nat → Prop) (b : Nat) (s : RS ByteArray) (h : RingS w R b s) :
  Calls Tryz.prog 51 #[.pointer (some ⟨b, 0, none⟩)] w fun e w' => e = .returned (.pointer (some ⟨w.heap.size, 0, none⟩)) ∧ Below w.heap.size w w' ∧ ∃ R', RingS w' R' w.heap.size s ∧ ∀ k, R' k → w.heap.size ≤ k := by
 obtain ⟨A, c, hb, hown, hin, hrd, hlc, hcm, hA⟩ := h.open_
 have c0 := Bx3.c0 hb
 have c2 := Bx3.c2 hb
 have hlim : limOf (s.lim : Int) = s.lim := by
  have := h.ok.pos
  have := h.ok.le
  unfold limOf; omega
 have H := hid h
 clear hb hown hin hrd hlc hcm hA h
 refine (callsIn_wide (n := 4)).1 ?_
 refine callsIn_of_wp_marks Tryz.func51 rfl trivial ?_ rfl
 simp only [Tryz.ntmps51, List.size_toArray, List.length_cons, List.length_nil, Nat.reduceAdd, Nat.reduceSub, Array.replicate_succ, Array.replicate_zero, List.push_toArray, List.append_toArray, List.nil_append, List.cons_append]
 gi_wp2_with (refine ⟨trivial, ?_⟩; gi_at_call 25; refine (callsIn_wide.2 (new_callsS _ _)).mono ?_; rintro e w' ⟨rfl, rfl⟩)
 gi_wp2_with (refine ⟨trivial, ?_⟩; gi_at_call 36; refine (all_inS _ _ _).mono ?_; rintro e w' ⟨rfl, rfl⟩)
 obtain ⟨W0, hW0⟩ : ∃ W0, ((w.alloc (.cells #[.int .i64 (s.lim : Int), .slice none 0 0, .int .i64 0] 98)).alloc (.cells #[.pointer (some ⟨w.heap.size, 0, none⟩)] 57)).alloc (.cells #[.pointer (some ⟨b, 0, none⟩)] 57) = W0 := ⟨_, rfl⟩
 have hszW : W0.heap.size = w.heap.size + 3 := by rw [← hW0]; simp
 have hbW : Below w.heap.size w W0 := by
  rw [← hW0]
  exact (((Below.refl _ w).alloc (Nat.le_refl _) _).alloc (by simp) _).alloc (by simp; omega) _
 have r0 : RingS W0 (fun k => k = w.heap.size) w.heap.size ⟨s.lim, [], 0⟩ := by
  have := ((newRingS (s.lim : Int) w).alloc (.cells #[.pointer (some ⟨w.heap.size, 0, none⟩)] 57)).alloc (.cells #[.pointer (some ⟨b, 0, none⟩)] 57)
  unfold RS.new at this
  rw [hlim, hW0] at this
  exact this
 have x1 := (Boxed.new (w.alloc (.cells #[.int .i64 (s.lim : Int), .slice none 0 0, .int .i64 0] 98)) 57 (.pointer (some ⟨w.heap.size, 0, none⟩))).alloc (.cells #[.pointer (some ⟨b, 0, none⟩)] 57)
 have x2 := Boxed.new ((w.alloc (.cells #[.int .i64 (s.lim : Int), .slice none 0 0, .int .i64 0] 98)).alloc (.cells #[.pointer (some ⟨w.heap.size, 0, none⟩)] 57)) 57 (.pointer (some ⟨b, 0, none⟩))
 simp only [World.size_alloc] at x1 x2
 rw [hW0] at x1 x2 ⊢
 clear hW0
 have hlen := H.out.ok.len
 have hlb := H.out.ok.le
 have hpos := H.out.ok.pos
 obtain ⟨i0, hi, hz0, hz1, hz2⟩ := info_parts infoSV
 refine wpIn_rangeFunc_ownG rfl (by omega) (gf := 89) (lb := #[.pointer (some ⟨w.heap.size + 1 + 1, 0, none⟩)]) rfl trivial (enters_of Tryz.func89 (by kernel_rfl) rfl)
  (all_stopsS 3 (by omega) (w.heap.size + 1 + 1) w.heap.size _ R b s (H.out.below hbW) (fun k hk => H.out.lt k hk) x2) belowK_t (belowK_b (by omega)) (Below.refl _ _) (fun _ => rfl)
  (fun pre W => Boxed W (w.heap.size + 1) 57 (.pointer (some ⟨w.heap.size, 0, none⟩)) ∧ ((∃ R', RingS W R' w.heap.size ⟨s.lim, (valsL pre).map (·.2), 0⟩ ∧ ∀ k, R' k → w.heap.size ≤ k ∧ k ≠ w.heap.size + 1) ∧ (Below w.heap.size w W ∧ w.heap.size + 3 ≤ W.heap.size)))
  (fun _ _ _ => False)
  (OwnFrom.and (Own.from (boxed_own (w.heap.size + 1) 57 (fun _ : List (OfL s.l) => .pointer (some ⟨w.heap.size, 0, none⟩))) _) (OwnFrom.and (fun pre A C row hs hg hr => by obtain ⟨R', h1, h2⟩ := hs; exact ⟨R', ring_own h1 hg (fun r e => (hr r e).2), h2⟩) (OwnFrom.and (ownFrom_below (Nat.le_refl _) (by omega)) (ownFrom_sz _ _))))
  (fun _ _ _ _ _ hs _ _ => hs)
  ⟨x1, ⟨_, r0, fun k e => by subst e; exact ⟨Nat.le_refl _, by omega⟩⟩, hbW, by omega⟩
  (fun x => { tmps := #[.pointer (some ⟨b, 0, none⟩), undef, .pointer none, .pointer (some ⟨w.heap.size + 1, 0, none⟩), undef, Value.string x.1.2, .pointer (some ⟨b, 0, none⟩), .pointer (some ⟨b, 0, none⟩), .pointer (some ⟨b, 0, none⟩), .int .i64 (s.lim : Int), .pointer (some ⟨w.heap.size, 0, none⟩), .pointer (some ⟨b, 0, none⟩), .func (.func 89) #[] #[.pointer (some ⟨w.heap.size + 1 + 1, 0, none⟩)], .int .i64 (x.1.1 : Int), Value.string x.1.2, undef, undef, undef, undef, undef, undef, undef, undef, undef, undef, undef, undef, undef, undef, undef, undef, undef, undef], defers := [] }) ?assign ?body ?done ?stop
 case assign =>
  intro l' x W K hK
  gi_wp2
  exact hK
 case body =>
  rintro l' pre x W ⟨hbx, ⟨R', hr, hR'⟩, hB, hsz⟩ hlt
  obtain ⟨v, h1, hown, hin⟩ := hr.mem
  obtain ⟨ls, hls⟩ : ∃ ls, (valsL pre).map (·.2) = ls := ⟨_, rfl⟩
  have hpl : ls.length = pre.length := by rw [← hls, List.length_map, valsL_length]
  have hsnoc : (valsL (pre ++ [x])).map (·.2) = ls ++ [x.1.2] := by rw [valsL_snoc, List.map_append, hls]; rfl
  rw [hls] at hr h1 hown
  obtain ⟨A1, c1, rfl⟩ := own_form hown
  dsimp only at h1 hown hin
  have hok : (⟨s.lim, ls ++ [x.1.2], 0⟩ : RS ByteArray).Ok := ⟨hpos, hlb, by show (ls ++ [x.1.2]).length ≤ s.lim; rw [List.length_append, hpl]; simp; omega, .inl (by show 0 < (ls ++ [x.1.2]).length; simp)⟩
  have cN := Bx3.c1 h1
  have cB := hbx.cell
  obtain ⟨v', w2, hrun, hown', hgrow, hob⟩ := run_append_V (P := Tryz.prog) (V := Value.string) (fun _ => rfl) ((W.drew).alloc (.cells #[Value.string x.1.2] 9)) 0 30 30 9 i0 (.string ⟨#[]⟩) 16 Tryz.underlying30 hi hz0 hz1 hz2 rfl (by decide)
   _ _ ls rfl (own_only hown (Only.alloc (Only.drew (Only.refl (fun _ => False) W)) _) (fun _ _ h => h)) (some ⟨W.heap.size, 0, none⟩) 1 1 [x.1.2] rfl (fun h => by cases h) (rdV_of_own (own_oneV (W.drew) 0 9 x.1.2 (Nat.zero_le _))).1 (by rw [hpl]; simp; omega) (Nat.zero_le _)
  obtain ⟨hb2, hto⟩ := ring_app ne_ringS hr h1 hin hown _ hgrow hob (by rw [List.length_append]; exact hown') hok
  obtain ⟨A2, c2', rfl⟩ := own_form hown'
  have hO : Only R' W w2 := (((Only.refl R' W).drew).alloc _).grown hgrow (fun i e => .inl (hin i e))
  have bx2 : Boxed w2 (w.heap.size + 1) 57 (.pointer (some ⟨w.heap.size, 0, none⟩)) := (hO.block _ hbx.lt (fun h => (hR' _ h).2 rfl)).trans hbx
  have Hb2 := hid bx2.cell
  have Hb3 : Hid ((w2.setCell ⟨w.heap.size, 1, none⟩ (.slice A2 (ls.length + 1) c2')).cell? ⟨w.heap.size + 1, 0, none⟩ = some (.pointer (some ⟨w.heap.size, 0, none⟩))) := hid (by
   rw [World.cell?_setCell_far _ _ _ _ (by simp)]; exact bx2.cell)
  have d1 := hb2.c1
  have f1 := hb2.f1
  have hKO : KeepsOthers W (w2.setCell ⟨w.heap.size, 1, none⟩ (.slice A2 (ls.length + 1) c2')) :=
   (((KeepsOthers.drew W).trans (KeepsOthers.alloc W.drew _)).trans (KeepsOthers.of_grownBy hgrow fun j o ej hj => own_cells (own_only hown (Only.alloc (Only.drew (Only.refl (fun _ => False) W)) _) (fun _ _ h => h)) ej hj)).trans (keeps_set _ _ _)
  have Hend : Hid (KeepsFrom W0.heap.size W (w2.setCell ⟨w.heap.size, 1, none⟩ (.slice A2 (ls.length + 1) c2')) ∧ Below w.heap.size W (w2.setCell ⟨w.heap.size, 1, none⟩ (.slice A2 (ls.length + 1) c2')) ∧ Boxed (w2.setCell ⟨w.heap.size, 1, none⟩ (.slice A2 (ls.length + 1) c2')) (w.heap.size + 1) 57 (.pointer (some ⟨w.heap.size, 0, none⟩)) ∧
    (∃ R', RingS (w2.setCell ⟨w.heap.size, 1, none⟩ (.slice A2 (ls.length + 1) c2')) R' w.heap.size ⟨s.lim, (valsL (pre ++ [x])).map (·.2), 0⟩ ∧ ∀ k, R' k → w.heap.size ≤ k ∧ k ≠ w.heap.size + 1) ∧ Below w.heap.size w (w2.setCell ⟨w.heap.size, 1, none⟩ (.slice A2 (ls.length + 1) c2')) ∧ w.heap.size + 3 ≤ (w2.setCell ⟨w.heap.size, 1, none⟩ (.slice A2 (ls.length + 1) c2')).heap.size) := hid (by
   obtain ⟨Ra, a1, a2, a3⟩ := hto
   have hBW : Below w.heap.size W _ := a2.below hB.size (fun i hi => (hR' i hi).1)
   rw [hsnoc]
   refine ⟨hKO.from _, hBW, keeps_cell bx2 (by omega) _, ⟨Ra, a1, fun k hk => ?_⟩, hB.trans hBW, Nat.le_trans hsz a2.size⟩
   rcases a3 k hk with h | h
   ·exact hR' k h
   ·omega)
  have Hrun := hid hrun
  have hgt : (W.drew.alloc (.cells #[Value.string x.1.2] 9)).cell? ⟨w.heap.size + 1, 0, none⟩ = some (.pointer (some ⟨w.heap.size, 0, none⟩)) := by
   rw [World.cell?_alloc_some _ _ _ (by show (W.cell? _).isSome = true; rw [cB]; rfl)]; exact cB
  have hgN : (W.alloc (.cells #[Value.string x.1.2] 9)).cell? ⟨w.heap.size, 1, none⟩ = some (.slice A1 ls.length c1) := by
   rw [World.cell?_alloc_some _ _ _ (by rw [cN]; rfl)]; exact cN
  clear hpl hr h1 hown hin hrun hown' hgrow hob hb2 hto hO bx2 hKO hls hsnoc hok hB hbx hR'
  gi_wp2
  refine round_held (S := fun w' => w'.cell? ⟨w.heap.size + 1, 0, none⟩ = some (.pointer (some ⟨w.heap.size, 0, none⟩))) (by kernel_rfl) (by kernel_rfl) (fun ⟨_, _, h⟩ => h) cB (fun hHeld => ?_)
  refine tkH 0 ?_
  refine tkH 1 ?_
  refine tkH 2 ?_
  refine tkH 3 ?_
  refine tkH 5 ?_
  refine wpAnyH_ready (rs := [4, 6]) (by kernel_rfl) (by simp) ?_
  refine AllReadyH.cons (o := ⟨some 19, _, _, _, _, _⟩) rfl (fun K hK => ?_) (AllReadyH.cons (o := ⟨some 21, _, _, _, _, _⟩) rfl (fun K hK => ?_) AllReadyH.nil)
  ·(rw [if_pos (by kernel_rfl)])
   go_simp
   refine hK.out _ _ cB (fun hHeld => ?_)
   clear hK K
   refine rdH 6 fun K hK => ?_
   go_simp
   refine hK.out _ _ hgt (fun hHeld => ?_)
   clear hK K
   refine wpAnyH_ready (rs := [7]) (by kernel_rfl) (by simp) ?_
   refine AllReadyH.cons (o := ⟨some 22, _, _, _, _, _⟩) rfl (fun K hK => ?_) AllReadyH.nil
   refine step_append_g (by kernel_rfl) (.tmp 19) (.tmp 21) 30 rfl _ _ rfl rfl Hrun.out ?_
   refine hK.out _ _ Hb2.out (fun hHeld => ?_)
   clear hK K
   refine tkH 8 ?_
   refine tkH 9 ?_
   refine rdH 10 fun K hK => ?_
   go_simp
   refine hK.out _ _ Hb3.out (fun hHeld => ?_)
   clear hK K
   refine wpAnyH_done (by kernel_rfl) ?_ _
   exact Hend.out
  ·(rw [if_pos (by kernel_rfl)])
   go_simp
   refine hK.out _ _ hgt (fun hHeld => ?_)
   clear hK K
   refine rdH 4 fun K hK => ?_
   go_simp
   refine hK.out _ _ hgt (fun hHeld => ?_)
   clear hK K
   refine wpAnyH_ready (rs := [7]) (by kernel_rfl) (by simp) ?_
   refine AllReadyH.cons (o := ⟨some 22, _, _, _, _, _⟩) rfl (fun K hK => ?_) AllReadyH.nil
   refine step_append_g (by kernel_rfl) (.tmp 19) (.tmp 21) 30 rfl _ _ rfl rfl Hrun.out ?_
   refine hK.out _ _ Hb2.out (fun hHeld => ?_)
   clear hK K
   refine tkH 8 ?_
   refine tkH 9 ?_
   refine rdH 10 fun K hK => ?_
   go_simp
   refine hK.out _ _ Hb3.out (fun hHeld => ?_)
   clear hK K
   refine wpAnyH_done (by kernel_rfl) ?_ _
   exact Hend.out
 case done =>
  rintro D ys W hD hys ⟨hbx, ⟨R', hr, hR'⟩, hB, hsz⟩ hK
  rw [hys, told_snd] at hr
  have hto := ring_stand ne_ringS hr s.i H.out.ok
  obtain ⟨v, h1, _, _⟩ := hr.mem
  have d2 := Bx3.c2 h1
  have f2 := Bx3.f2 h1
  have cB := hbx.cell
  have ci : W.cell? ⟨b, 2, none⟩ = some (.int .i64 (s.i : Int)) := (hB.cell (p := ⟨b, 2, none⟩) (H.out.lt b H.out.ins)).trans c2
  have bx3 := (keeps_cell hbx (g := w.heap.size) (i := 2) (by omega) (.int .i64 (s.i : Int)))
  have cB3 := bx3.cell
  have Hto := hid hto
  have HK : Hid (((W.setCell ⟨w.heap.size, 2, none⟩ (.int .i64 (s.i : Int))).drew).heap[D]? = some (.deferred (some []))) := hid ((Below.heap_setCell W ⟨w.heap.size, 2, none⟩ _ D (by simp; omega)).trans hK)
  have HB := hid hB
  clear hto hr h1 hbx bx3 hK hB
  gi_wp2
  gi_region
  gi_wp2
  refine ⟨by simp, .inl ⟨_, _, rfl, run_takeDeferred HK.out, ?_⟩⟩
  obtain ⟨Ra, a1, a2, a3⟩ := Hto.out
  have hRa : ∀ k, Ra k → w.heap.size ≤ k := fun k hk => (a3 k hk).elim (fun h => (hR' k h).1) (fun h => by omega)
  refine ⟨_, results_tmp rfl _ _ _, rfl, ?_, Ra, ring_own a1.drew (grownBy_putObj' _ _ _) (fun r e => ?_), hRa⟩
  ·exact ((HB.out.trans (a2.below HB.out.size (fun i hi => (hR' i hi).1))).drew).trans (belowK_b (w := w) (Nat.le_refl _) _ D _ _ (by omega) HK.out rfl rfl)
  ·injection e with e
   subst e
   exact ⟨_, HK.out, rfl⟩
 case stop =>
  rintro D c pre W _ _ h _
  exact h.elim
end
end Go.Proofs.YtoaponaljkhlfaaGreatDoor
