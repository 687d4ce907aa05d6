/-
  width.Sum: what the call comes to.
-/
import Derived.Test.YtfoiihopalcioaaDoorCuts
namespace Go.Proofs.YtfoiihopalcioaaDoor
open Go Go.RowKit Go.Shelf
attribute [local go_sem] Oper.semAt_some

def clus {s : ByteArray} (xs : List (Of s)) : List (List UInt8) := (vals xs).map (·.2.data.toList)
theorem clus_snoc {s : ByteArray} (xs : List (Of s)) (x : Of s) : clus (xs ++ [x]) = clus xs ++ [x.1.2.data.toList] := by simp [clus, vals_snoc]
theorem clus_length {s : ByteArray} (xs : List (Of s)) : (clus xs).length = xs.length := by simp [clus, vals]
theorem clus_all {s : ByteArray} (xs : List (Of s)) (h : vals xs = eachB s) : clus xs = cutL s.data.toList := by
  unfold clus
  rw [h]
  have : (eachB s).map (·.2.data.toList) = ((eachB s).map (·.2)).map (·.data.toList) := by rw [List.map_map]; rfl
  rw [this, eachB_snd]
  unfold cutB
  rw [List.map_map]
  conv => rhs; rw [← List.map_id (cutL s.data.toList)]
  rfl

theorem sum_round {s : ByteArray} {w W w1 : World} {pre : List (Of s)} {x : Of s} {z y B : Nat} {q : Int} (hb1 : Below W.drew.heap.size W.drew w1) (hv1 : Boxed w1 w.heap.size 3 (.int .i64 (z : Int))) (hB : Below w.heap.size w W) (hsz : w.heap.size + 2 ≤ W.heap.size) (hq : q = (z : Int) + (y : Int)) (hx : wides (clus (pre ++ [x])) = z + y) :
    KeepsFrom B W (w1.setCell ⟨w.heap.size, 0, none⟩ (.int .i64 q)) ∧ Kp w.heap.size (w.heap.size + 1) W (w1.setCell ⟨w.heap.size, 0, none⟩ (.int .i64 q)) ∧
      Boxed (w1.setCell ⟨w.heap.size, 0, none⟩ (.int .i64 q)) w.heap.size 3 (.int .i64 (wides (clus (pre ++ [x])) : Int)) ∧ Below w.heap.size w (w1.setCell ⟨w.heap.size, 0, none⟩ (.int .i64 q)) ∧ w.heap.size + 2 ≤ (w1.setCell ⟨w.heap.size, 0, none⟩ (.int .i64 q)).heap.size := by
  have hb : Below W.heap.size W w1 := ⟨hb1.os, hb1.tape, hb1.output, hb1.size, hb1.block⟩
  have hs1 : W.heap.size ≤ w1.heap.size := hb.size
  have hko : KeepsOthers W (w1.setCell ⟨w.heap.size, 0, none⟩ (.int .i64 q)) := KeepsOthers.trans ⟨hs1, fun k _ hk _ => (hb.block k (Array.getElem?_eq_some_iff.1 hk).1).trans hk⟩ (KeepsOthers.setCell _ _ _)
  have hbb : Below w.heap.size W (w1.setCell ⟨w.heap.size, 0, none⟩ (.int .i64 q)) := (hb.mono (show w.heap.size ≤ W.heap.size by omega)).setCell (p := ⟨w.heap.size, 0, none⟩) (Nat.le_refl _) _
  refine ⟨hko.from _, ⟨hbb, ⟨hko.size, fun k o hk ho => hko.same k o hk (Obj.not_cells_of_walk ho)⟩, ?_⟩, ?_, hB.trans hbb, Nat.le_trans hsz hko.size⟩
  · rw [Below.heap_setCell w1 ⟨w.heap.size, 0, none⟩ _ (w.heap.size + 1) (by simp), hb.block (w.heap.size + 1) (by omega)]
  · have := hv1.set (.int .i64 q)
    rw [hx, hq] at *
    simpa using this

set_option maxRecDepth 100000 in
set_option maxHeartbeats 4000000 in
theorem sum_calls (s : ByteArray) (hs : s.size ≤ 1099511627776) (w : World) (hsp : Spans w) :
    Calls Tryd.prog 24 #[.string s] w fun e w' => e = .returned (.int .i64 (sumL s.data.toList : Int)) ∧ Below w.heap.size w w' := by
  refine (callsIn_wide (n := 4)).1 ?_
  refine callsIn_of_wp_marks Tryd.func24 rfl trivial ?_ rfl
  simp only [Tryd.ntmps24, List.size_toArray, List.length_cons, List.length_nil, Nat.reduceAdd, Nat.reduceSub, Array.replicate_succ, Array.replicate_zero, List.push_toArray, List.append_toArray, List.nil_append, List.cons_append]
  gi_wp2_with (refine ⟨trivial, ?_⟩; gi_at_call 26; refine (each_in _ _ _).mono ?_; rintro e w' ⟨rfl, rfl⟩)
  have bO := Boxed.new w 3 (.int .i64 0)
  have bN := Boxed.new (w.alloc (.cells #[.int .i64 0] 3)) 9 (.string s)
  rw [World.size_alloc] at bN
  have hB0 : Below w.heap.size w ((w.alloc (.cells #[.int .i64 0] 3)).alloc (.cells #[.string s] 9)) := ((Below.refl _ w).alloc (Nat.le_refl _) _).alloc (by simp) _
  have hN := eachB_length s
  have hg0 : 0 < w.heap.size := by
    obtain ⟨_, _, h⟩ := hsp
    exact (Array.getElem?_eq_some_iff.1 h).1
  refine wpIn_rangeFunc_ownG rfl (by omega) (gf := 33) (lb := #[.pointer (some ⟨w.heap.size + 1, 0, none⟩)]) rfl trivial (enters_of Tryd.func33 (by kernel_rfl) rfl)
    (each_stops 3 (by omega) (w.heap.size + 1) w.heap.size s hs _ (by simp; omega) bN (spans_below hsp hB0) hg0) kp_t (kp_b (by simp; omega) (by simp)) (Below.refl _ _) (fun _ => rfl)
    (fun pre W => Boxed W w.heap.size 3 (.int .i64 (wides (clus pre) : Int)) ∧ (Below w.heap.size w W ∧ w.heap.size + 2 ≤ W.heap.size))
    (fun _ _ _ => False)
    (OwnFrom.and (Own.from (boxed_own w.heap.size 3 (fun pre : List (Of s) => .int .i64 (wides (clus pre) : Int))) _) (OwnFrom.and (ownFrom_below (Nat.le_refl _) (by simp; omega)) (ownFrom_size _ _)))
    (fun _ _ _ _ _ hs _ _ => hs)
    ⟨bO.alloc _, hB0, by simp⟩
    (fun x => { tmps := #[.string s, undef, .int .i64 0, .pointer (some ⟨w.heap.size, 0, none⟩), undef, .string x.1.2, .string s, .func (.func 33) #[] #[.pointer (some ⟨w.heap.size + 1, 0, none⟩)], .int .i64 (x.1.1 : Int), .string x.1.2, undef, undef, undef, undef, undef], defers := [] }) ?assign ?body ?done ?stop
  case assign =>
    intro l x W K hK
    gi_wp2
    exact hK
  case body =>
    rintro l pre x W ⟨hv, hB, hsz⟩ hlt
    have hc := hv.cell
    have hf := hv.frozen
    have hmx : Tryd.prog.follows .mixedOrders = true := by kernel_rfl
    have hmem := (eachB_mem s x.1 x.2).1
    have hsW : Spans W := spans_below hsp hB
    have h1 := wides_le (clus pre)
    rw [clus_length] at h1
    have h2 := wideL_le x.1.2.data.toList
    have Hsn := Lib.hid (wides_snoc (clus pre) x.1.2.data.toList)
    have Hcl := Lib.hid (clus_snoc pre x)
    have Hcon := Lib.hid (fun W' (h : Spans W') => wide_calls x.1.2 (by omega) W' h)
    have HsW : Hid (Spans W.drew) := Lib.hid hsW
    have Hv : Hid (Boxed W.drew w.heap.size 3 (.int .i64 (wides (clus pre) : Int))) := Lib.hid hv
    clear hsW hv hsp
    generalize wideL x.1.2.data.toList = y at *
    generalize wides (clus pre) = z at *
    have hfn : Fence.wide.fn 21 := trivial
    gi_wp2
    gi_region_with_o (gi_at_call 21; refine (CallsIn.inRound l (callsIn_wide.2 (Hcon.out _ HsW.out))).mono ?_; rintro e w1 ⟨rfl, hb1⟩; have hv1 : Boxed w1 w.heap.size 3 (.int .i64 (z : Int)) := (hb1.block _ Hv.out.lt).trans Hv.out; have hc1 := hv1.cell; have hf1 := hv1.frozen)
    all_goals gi_wp2
    all_goals
      obtain ⟨a1, a2, a3, a4, a5⟩ := sum_round (w := w) (z := z) (y := y) (by assumption) hv1 hB hsz (IntWalk.i64_in ((z : Int) + (y : Int)) (by omega)) (by rw [Hcl.out, Hsn.out])
      exact ⟨a1, a2, a3, a4, a5⟩
  case done =>
    rintro D ys W hD hys ⟨hv, hB, hsz⟩ hK
    have hc := hv.cell
    gi_wp2
    refine ⟨by simp, .inl ⟨_, _, rfl, run_takeDeferred hK, ?_⟩⟩
    refine ⟨_, results_tmp rfl _ _ _, ?_, hB.trans (belowK_b (w := w) (Nat.le_refl _) W D _ _ (by simp at hD; omega) hK rfl rfl)⟩
    rw [clus_all ys hys]; rfl
  case stop =>
    rintro D c pre W _ _ h _
    exact h.elim
end Go.Proofs.YtfoiihopalcioaaDoor
