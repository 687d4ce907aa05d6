/-
  Layer 7 and what it stands on, part 21 (Cuts WRdC).
-/
import Derived.Test.YtoaponaljkhlfaaGreatDoorPz18
import Derived.Test.YtoaponaljkhlfaaGreatDoorPz20
import Derived.Maps.AppendAt
namespace Go.Proofs.YtoaponaljkhlfaaGreatDoor
section
open Go Go.RowKit Go.Shelf
attribute [local go_sem] Oper.semAt_some
def cutB (s : ByteArray) : List ByteArray := (cutL s.data.toList).map fun c => ⟨c.toArray⟩
theorem eachB_snd (s : ByteArray) : (eachB s).map (·.2) = cutB s := by
 unfold eachB pcs cutB eachL
 rw [List.map_map]
 conv => rhs; rw [← withAt_snd 0 (cutL s.data.toList), List.map_map]
 rfl
theorem eachB_length (s : ByteArray) : (eachB s).length ≤ s.size := by
 unfold eachB pcs eachL
 rw [List.length_map, withAt_length, Lib.size_eq]
 exact cutL_length _
theorem ownFrom_size {β : Type} (B k : Nat) : OwnFrom B (fun (_ : β) W => k ≤ W.heap.size) := fun _ _ _ _ hs hg _ => Nat.le_trans hs hg.size
set_option maxRecDepth 100000 in
set_option maxHeartbeats 4000000 in
theorem cut_calls (s : ByteArray) (hs : s.size ≤ 1099511627776) (w : World) (hsp : Spans w) :
  Calls Tryz.prog 40 #[.string s] w fun e w' => ∃ v, e = .returned v ∧ w'.ownsRow w.heap.size 9 1 v (cutB s).length (cellsS (cutB s)) ∧ Below w.heap.size w w' := by
 obtain ⟨i0, hi, hz0, hz1, hz2⟩ := info_parts infoS
 refine (callsIn_wide (n := 4)).1 ?_
 refine callsIn_of_wp_marks Tryz.func40 rfl trivial ?_ rfl
 simp only [Tryz.ntmps40, List.size_toArray, List.length_cons, List.length_nil, Nat.reduceAdd, Nat.reduceSub, Array.replicate_succ, Array.replicate_zero, List.push_toArray, List.append_toArray, List.nil_append, List.cons_append]
 gi_wp2_with (refine ⟨trivial, ?_⟩; gi_at_call 90; refine (each_in _ _ _).mono ?_; rintro e w' ⟨rfl, rfl⟩)
 have bO := Boxed.new w 30 (.slice none 0 0)
 have bN := Boxed.new (w.alloc (.cells #[.slice none 0 0] 30)) 9 (.string s)
 rw [World.size_alloc] at bN
 have hB0 : Below w.heap.size w ((w.alloc (.cells #[.slice none 0 0] 30)).alloc (.cells #[.string s] 9)) := ((Below.refl _ w).alloc (Nat.le_refl _) _).alloc (by simp) _
 have hN := eachB_length s
 have hg0 : 0 < w.heap.size := by
  obtain ⟨_, _, h⟩ := hsp
  exact (Array.getElem?_eq_some_iff.1 h).1
 refine wpIn_rangeFunc_ownG rfl (by omega) (gf := 119) (lb := #[.pointer (some ⟨w.heap.size + 1, 0, none⟩)]) rfl trivial (enters_of Tryz.func119 (by kernel_rfl) rfl)
  (each_stops 3 (by omega) (w.heap.size + 1) w.heap.size s hs _ (by simp; omega) bN (spans_below hsp hB0) hg0) kp_t (kp_b (by simp; omega) (by simp)) (Below.refl _ _) (fun _ => rfl)
  (fun pre W => (∃ v, Boxed W w.heap.size 30 v ∧ W.ownsRow (w.heap.size + 2) 9 1 v pre.length (cellsS ((vals pre).map (·.2))) ∧ True) ∧ (Below w.heap.size w W ∧ w.heap.size + 2 ≤ W.heap.size))
  (fun _ _ _ => False)
  (OwnFrom.and (Own.from (holdsRow_own (w.heap.size + 2) w.heap.size 30 9 1 (fun pre : List (Of s) => pre.length) (fun pre => cellsS ((vals pre).map (·.2))) (fun _ _ => True)) _) (OwnFrom.and (ownFrom_below (Nat.le_refl _) (by simp; omega)) (ownFrom_size _ _)))
  (fun _ _ _ _ _ hs _ _ => hs)
  ⟨⟨_, bO.alloc _, World.ownsRow_nil _ _ _ _, trivial⟩, hB0, by simp⟩
  (fun x => { tmps := #[.string s, undef, .slice none 0 0, .pointer (some ⟨w.heap.size, 0, none⟩), undef, .string x.1.2, .string s, .func (.func 119) #[] #[.pointer (some ⟨w.heap.size + 1, 0, none⟩)], .int .i64 (x.1.1 : Int), .string x.1.2, undef, undef, undef, undef, undef], defers := [] }) ?assign ?body ?done ?stop
 case assign =>
  intro l x W K hK
  gi_wp2
  exact hK
 case body =>
  rintro l pre x W ⟨⟨v, hv, hrow, _⟩, hB, hsz⟩ hlt
  have hc := hv.cell
  gi_wp2_with (gi_at_builtin; refine wpListIn_append_own _ rfl _ _ 30 rfl (w.heap.size + 2) 9 i0 (.string ⟨#[]⟩) 1 16 Tryz.underlying30 hi hz0 hz1 hz2 rfl (by decide) _ _ _ rfl (hrow.alloc _) ⟨W.heap.size, 0, none⟩ 1 1 [.string x.1.2] rfl rfl (cell_one_new _ _ _) (by simp [Value.oneCell']) (by unfold maxLen; omega) (by omega) (by simp; omega) ?_; intro v' w1 hown' hgrow _; obtain ⟨g', cap', rfl⟩ := ownsRow_succ hown'; obtain ⟨hv1, hv2, hr2, hk2, hb2, hs2⟩ := box_appended hv hrow (by omega) hsz hown' hgrow; have hc1 := hv1.cell; have hf1 := hv1.frozen)
  refine ⟨hk2.from _, ⟨hb2 _ (Nat.le_refl _), ⟨hk2.size, fun k o hk ho => hk2.same k o hk (Obj.not_cells_of_walk ho)⟩, hs2 _ (by omega) (by omega)⟩, ⟨_, hv2, ?_, trivial⟩, hB.trans (hb2 _ (Nat.le_refl _)), Nat.le_trans hsz hk2.size⟩
  rw [vals_snoc, List.map_append, List.map_cons, List.map_nil, cellsS_snoc]
  simpa using hr2
 case done =>
  rintro D ys W hD hys ⟨⟨v, hv, hrow, _⟩, hB, hsz⟩ hK
  have hc := hv.cell
  gi_wp2
  refine ⟨by simp, .inl ⟨_, _, rfl, run_takeDeferred hK, ?_⟩⟩
  refine ⟨_, results_tmp rfl _ _ _, v, rfl, ?_, hB.trans (belowK_b (w := w) (Nat.le_refl _) W D _ _ (by simp at hD; omega) hK rfl rfl)⟩
  have h := ownsRow_putObj hrow (.deferred none) hK rfl
  rw [← vals_length, hys, eachB_snd, show (eachB s).length = (cutB s).length by rw [← eachB_snd, List.length_map]] at h
  exact own_less h (by omega)
 case stop =>
  rintro D c pre W _ _ h _
  exact h.elim
theorem eachB_fst (s : ByteArray) : (eachB s).map (·.1) ++ [s.size] = boundsL s.data.toList := by
 rw [boundsL_each, ← Lib.size_eq]
 unfold eachB pcs
 rw [List.map_map]
 rfl
end
section
open Go Go.RowKit
theorem cut_rd (l : List UInt8) (hl : l.length ≤ 1099511627776) (w : World) (hsp : Spans w) :
  Calls Tryz.prog 40 #[.string (bs l)] w fun e w' => ∃ A c, e = .returned (.slice A (cutL l).length c) ∧ RdS w' A ((cutL l).map bs) ∧ Below w.heap.size w w' := by
 refine (cut_calls (bs l) (by rw [bs_size]; exact hl) w hsp).mono ?_
 rintro e w' ⟨v, rfl, hown, hb⟩
 rw [show cutB (bs l) = (cutL l).map bs from rfl] at hown
 obtain ⟨A, c, rfl⟩ := own_form hown
 obtain ⟨hR, _, _, _⟩ := rdS_of_own hown
 exact ⟨A, c, by rw [List.length_map], hR, hb⟩
theorem rdS_at {w : World} {A : Option Addr} {cs : List (List UInt8)} (h : RdS w A (cs.map bs)) (hn : 0 < cs.length) :
  ∃ g o, A = some ⟨g, o, none⟩ ∧ g < w.heap.size ∧ ∀ i, i < cs.length → w.cell? ⟨g, o + i, none⟩ = some (.string (bs (cs.getD i []))) := by
 obtain ⟨g, o, e, h1, h2⟩ := h (by rw [List.length_map]; exact hn)
 exact ⟨g, o, e, h1, fun i hi => by rw [h2 i (by rw [List.length_map]; exact hi), getD_bs]⟩
theorem bs_of (s : ByteArray) : bs s.data.toList = s := rfl
end
end Go.Proofs.YtoaponaljkhlfaaGreatDoor
