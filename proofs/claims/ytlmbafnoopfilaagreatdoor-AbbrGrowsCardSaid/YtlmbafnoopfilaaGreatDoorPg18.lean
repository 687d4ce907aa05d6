/-
  Layer 7 and what it stands on, part 18 (CutsM CutsB).
-/
import Derived.Test.YtlmbafnoopfilaaGreatDoorPg15
import Derived.Test.YtlmbafnoopfilaaGreatDoorPg17
import Derived.Maps.AppendAt
namespace Go.Proofs.YtlmbafnoopfilaaGreatDoor
section
open Go Go.RowKit Go.Shelf
attribute [local go_sem] Oper.semAt_some
/-- The clusters of a text, as texts. -/
def cutB (s : ByteArray) : List ByteArray := (cutL s.data.toList).map fun c => ⟨c.toArray⟩
theorem eachB_length (s : ByteArray) : (eachB s).length ≤ s.size := by
  unfold eachB pcs eachL
  rw [List.length_map, withAt_length, Lib.size_eq]
  exact cutL_length _
theorem ownFrom_size {β : Type} (B k : Nat) : OwnFrom B (fun (_ : β) W => k ≤ W.heap.size) := fun _ _ _ _ hs hg _ => Nat.le_trans hs hg.size
theorem eachB_fst (s : ByteArray) : (eachB s).map (·.1) ++ [s.size] = boundsL s.data.toList := by
  rw [boundsL_each, ← Lib.size_eq]
  unfold eachB pcs
  rw [List.map_map]
  rfl
end
section
open Go Go.RowKit Go.Shelf
attribute [local go_sem] Oper.semAt_some
set_option maxRecDepth 100000 in
set_option maxHeartbeats 4000000 in
theorem bounds_calls (s : ByteArray) (hs : s.size ≤ 1099511627776) (w : World) (hsp : Spans w) :
    Calls Tryz.prog 27 #[.string s] w fun e w' => ∃ v, e = .returned v ∧ w'.ownsRow w.heap.size 3 1 v (boundsL s.data.toList).length (cells64 (boundsL s.data.toList)) ∧ Below w.heap.size w w' := by
  obtain ⟨i0, hi, hz0, hz1, hz2⟩ := info_parts info64
  refine (callsIn_wide (n := 4)).1 ?_
  refine callsIn_of_wp_marks Tryz.func27 rfl trivial ?_ rfl
  simp only [Tryz.ntmps27, List.size_toArray, List.length_cons, List.length_nil, Nat.reduceAdd, Nat.reduceSub, Array.replicate_succ, Array.replicate_zero, List.push_toArray, List.append_toArray, List.nil_append, List.cons_append]
  gi_wp2_with (refine ⟨trivial, ?_⟩; gi_at_call 48; refine (each_in _ _ _).mono ?_; rintro e w' ⟨rfl, rfl⟩)
  have bO := Boxed.new w 66 (.slice none 0 0)
  have bN := Boxed.new (w.alloc (.cells #[.slice none 0 0] 66)) 9 (.string s)
  rw [World.size_alloc] at bN
  have hB0 : Below w.heap.size w ((w.alloc (.cells #[.slice none 0 0] 66)).alloc (.cells #[.string s] 9)) := ((Below.refl _ w).alloc (Nat.le_refl _) _).alloc (by simp) _
  have hN := eachB_length s
  have hg0 : 0 < w.heap.size := by
    obtain ⟨_, _, h⟩ := hsp
    exact (Array.getElem?_eq_some_iff.1 h).1
  refine wpIn_rangeFunc_ownG rfl (by omega) (gf := 63) (lb := #[.pointer (some ⟨w.heap.size + 1, 0, none⟩)]) rfl trivial (enters_of Tryz.func63 (by kernel_rfl) rfl)
    (each_stops 3 (by omega) (w.heap.size + 1) w.heap.size s hs _ (by simp; omega) bN (spans_below hsp hB0) hg0) kp_t (kp_b (by simp; omega) (by simp)) (Below.refl _ _) (fun _ => rfl)
    (fun pre W => (∃ v, Boxed W w.heap.size 66 v ∧ W.ownsRow (w.heap.size + 2) 3 1 v pre.length (cells64 ((vals pre).map (·.1))) ∧ True) ∧ (Below w.heap.size w W ∧ w.heap.size + 2 ≤ W.heap.size))
    (fun _ _ _ => False)
    (OwnFrom.and (Own.from (holdsRow_own (w.heap.size + 2) w.heap.size 66 3 1 (fun pre : List (Of s) => pre.length) (fun pre => cells64 ((vals pre).map (·.1))) (fun _ _ => True)) _) (OwnFrom.and (ownFrom_below (Nat.le_refl _) (by simp; omega)) (ownFrom_size _ _)))
    (fun _ _ _ _ _ hs _ _ => hs)
    ⟨⟨_, bO.alloc _, World.ownsRow_nil _ _ _ _, trivial⟩, hB0, by simp⟩
    (fun x => { tmps := #[.string s, undef, .slice none 0 0, .pointer (some ⟨w.heap.size, 0, none⟩), .int .i64 (x.1.1 : Int), .string s, .func (.func 63) #[] #[.pointer (some ⟨w.heap.size + 1, 0, none⟩)], .int .i64 (x.1.1 : Int), .string x.1.2, undef, undef, undef, undef, undef, undef, undef, undef, undef], defers := [] }) ?assign ?body ?done ?stop
  case assign =>
    intro l x W K hK
    gi_wp2
    exact hK
  case body =>
    rintro l pre x W ⟨⟨v, hv, hrow, _⟩, hB, hsz⟩ hlt
    have hc := hv.cell
    gi_wp2_with (gi_at_builtin; refine wpListIn_append_own _ rfl _ _ 66 rfl (w.heap.size + 2) 3 i0 (.int .i64 0) 1 8 Tryz.underlying66 hi hz0 hz1 hz2 rfl (by decide) _ _ _ rfl (hrow.alloc _) ⟨W.heap.size, 0, none⟩ 1 1 [.int .i64 (x.1.1 : Int)] rfl rfl (cell_one_new _ _ _) (by simp [Value.oneCell']) (by unfold maxLen; omega) (by omega) (by simp; omega) ?_; intro v' w1 hown' hgrow _; obtain ⟨g', cap', rfl⟩ := ownsRow_succ hown'; obtain ⟨hv1, hv2, hr2, hk2, hb2, hs2⟩ := box_appended hv hrow (by omega) hsz hown' hgrow; have hc1 := hv1.cell; have hf1 := hv1.frozen)
    refine ⟨hk2.from _, ⟨hb2 _ (Nat.le_refl _), ⟨hk2.size, fun k o hk ho => hk2.same k o hk (Obj.not_cells_of_walk ho)⟩, hs2 _ (by omega) (by omega)⟩, ⟨_, hv2, ?_, trivial⟩, hB.trans (hb2 _ (Nat.le_refl _)), Nat.le_trans hsz hk2.size⟩
    rw [vals_snoc, List.map_append, List.map_cons, List.map_nil, cells64_snoc]
    simpa using hr2
  case done =>
    rintro D ys W hD hys ⟨⟨v, hv, hrow, _⟩, hB, hsz⟩ hK
    have hc := hv.cell
    have hyl : ys.length ≤ s.size := by rw [← vals_length, hys]; exact hN
    gi_wp2_with (gi_at_builtin; refine wpListIn_append_own _ rfl _ _ 66 rfl (w.heap.size + 2) 3 i0 (.int .i64 0) 1 8 Tryz.underlying66 hi hz0 hz1 hz2 rfl (by decide) _ _ _ rfl (hrow.alloc _) ⟨W.heap.size, 0, none⟩ 1 1 [.int .i64 (s.size : Int)] rfl rfl (cell_one_new _ _ _) (by simp [Value.oneCell']) (by unfold maxLen; omega) (by omega) (by simp; omega) ?_; intro v' w1 hown' hgrow _)
    replace hgrow : (W.alloc (.cells #[.int .i64 (s.size : Int)] 3)).grownBy w1 v.ownBlock := hgrow
    have hK1 : w1.heap[D]? = some (.deferred (some [])) := by
      have hDl : D < W.heap.size := (Array.getElem?_eq_some_iff.1 hK).1
      rw [hgrow.block D (by simp; omega) (fun e' => ?_), Below.heap_alloc _ _ _ hDl]
      · exact hK
      · rcases hrow.2 with ⟨rfl, _⟩ | ⟨g, cap, cur, rfl, _, hgb, _⟩
        · simp [Value.ownBlock] at e'
        · obtain rfl : D = g := by simpa [Value.ownBlock] using e'
          rw [hK] at hgb; cases hgb
    have hb1 : Below w.heap.size w w1 := (hB.alloc (by omega) _).grown hgrow (by simp; omega) (fun k hk => by have := (hrow.lt k hk).1; omega)
    gi_wp2
    refine ⟨by simp, .inl ⟨_, _, rfl, run_takeDeferred hK1, ?_⟩⟩
    refine ⟨_, results_tmp rfl _ _ _, v', rfl, ?_, hb1.trans (belowK_b (w := w) (Nat.le_refl _) w1 D _ _ (by simp at hD; omega) hK1 rfl rfl)⟩
    have h := ownsRow_putObj hown' (.deferred none) hK1 rfl
    have e1 : cells64 ((vals ys).map (·.1)) ++ [Value.int .i64 (s.size : Int)] = cells64 (boundsL s.data.toList) := by rw [← cells64_snoc, hys, eachB_fst]
    have e2 : ys.length + 1 = (boundsL s.data.toList).length := by rw [← eachB_fst, ← hys]; simp [vals]
    rw [e1, e2] at h
    exact own_less h (by omega)
  case stop =>
    rintro D c pre W _ _ h _
    exact h.elim
end
end Go.Proofs.YtlmbafnoopfilaaGreatDoor
