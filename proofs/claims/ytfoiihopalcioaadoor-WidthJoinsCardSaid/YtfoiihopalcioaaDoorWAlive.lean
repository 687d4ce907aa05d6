/-
  'alive' of the statements on width: it answers true, in any memory in which the table lies.
-/
import Derived.Test.YtfoiihopalcioaaDoorSumW
namespace Go.Proofs.YtfoiihopalcioaaDoor
open Go Go.RowKit Go.Shelf
attribute [local go_sem] Oper.semAt_some

theorem al_cut : cutB ⟨#[101, 204, 129, 120, 228, 184, 173]⟩ = [⟨#[101, 204, 129]⟩, ⟨#[120]⟩, ⟨#[228, 184, 173]⟩] := by
  have : cutL [101, 204, 129, 120, 228, 184, 173] = [[101, 204, 129], [120], [228, 184, 173]] := by decide +kernel
  unfold cutB
  rw [show (⟨#[101, 204, 129, 120, 228, 184, 173]⟩ : ByteArray).data.toList = [101, 204, 129, 120, 228, 184, 173] from rfl, this]
  rfl
theorem al_bnd : boundsL [101, 204, 129, 120] = [0, 3, 4] := by decide +kernel
theorem al_each : (eachB ⟨#[97, 98, 99]⟩).length = 3 := by
  unfold eachB pcs eachL
  rw [List.length_map, withAt_length]
  decide +kernel
theorem al_wide : wideL [228, 184, 173] = 2 := by decide +kernel
theorem al_sum : sumL [101, 204, 129, 120, 228, 184, 173] = 4 := by decide +kernel
theorem al_show : showL [204, 129] = [239, 191, 189] := by decide +kernel
theorem al_of : ofL 97 = 1 := by decide +kernel
theorem al_ctl : ctlL 7 = true := by decide +kernel

theorem func_nil (cap : Array Value) (W : World) : (binOp .eql 35 (.func (.func 33) #[] cap) .nilFunc).run Tryd.prog W = .ok (.bool false) W := by
  kernel_rfl

set_option maxRecDepth 100000 in
set_option maxHeartbeats 8000000 in
theorem walive_calls (w : World) (hsp : Spans w) :
    Calls Tryd.prog 10 #[] w fun e w' => e = .returned (.bool true) ∧ Below w.heap.size w w' := by
  have Hc := cut_calls ⟨#[101, 204, 129, 120, 228, 184, 173]⟩ (by decide) w hsp
  rw [al_cut] at Hc
  have HC := Lib.hid Hc
  clear Hc
  refine (callsIn_wide (n := 4)).1 ?_
  refine callsIn_of_wp_marks Tryd.func10 rfl trivial ?_ rfl
  simp only [Tryd.ntmps10, List.size_toArray, List.length_nil, Nat.reduceSub, Array.replicate_succ, Array.replicate_zero, List.push_toArray, List.append_toArray, List.nil_append, List.cons_append]
  gi_wp2_with (refine ⟨trivial, ?_⟩; gi_at_call 15; refine (callsIn_wide.2 HC.out).mono ?_)
  rintro e w1 ⟨v1, rfl, hown1, hb1⟩
  obtain ⟨A1, c1, rfl⟩ := own_form hown1
  obtain ⟨hR1, _, _, _⟩ := rdS_of_own hown1
  obtain ⟨g1, o1, rfl, hg1, hc1⟩ := hR1 (by decide)
  have Hc1 := Lib.hid hc1
  have hs1 := spans_below hsp hb1
  have Hb := Lib.hid (bounds_calls ⟨#[101, 204, 129, 120]⟩ (by decide) w1 hs1)
  clear hown1 hR1 hc1 HC
  gi_wp2_with (refine ⟨trivial, ?_⟩; gi_at_call 16; refine (callsIn_wide.2 Hb.out).mono ?_)
  rw [show boundsL (⟨#[101, 204, 129, 120]⟩ : ByteArray).data.toList = [0, 3, 4] from al_bnd]
  rintro e w2 ⟨v2, rfl, hown2, hb2⟩
  obtain ⟨A2, c2, rfl⟩ := own_form hown2
  obtain ⟨hR2, _, _, _⟩ := rd64_of_own hown2
  obtain ⟨g2, o2, rfl, hg2, hc2⟩ := hR2 (by decide)
  have Hc2 := Lib.hid hc2
  have hs2 := spans_below hs1 hb2
  have kb2 : Below w.heap.size w w2 := hb1.trans (hb2.mono hb1.size)
  have hz12 := hb2.size
  clear hown2 hR2 hc2 Hb
  have hnil : ∀ (cap : Array Value) (W : World), (binOp .eql 35 (.func (.func 33) #[] cap) .nilFunc).run Tryd.prog W = .ok (.bool false) W := fun cap W => func_nil cap W
  gi_wp2_with (refine ⟨trivial, ?_⟩; gi_at_call 26; refine (each_in _ _ _).mono ?_; rintro e w' ⟨rfl, rfl⟩)
  clear hnil
  have bO := Boxed.new w2 3 (.int .i64 0)
  have bN := Boxed.new (w2.alloc (.cells #[.int .i64 0] 3)) 9 (.string ⟨#[97, 98, 99]⟩)
  rw [World.size_alloc] at bN
  have hB0 : Below w2.heap.size w2 ((w2.alloc (.cells #[.int .i64 0] 3)).alloc (.cells #[.string ⟨#[97, 98, 99]⟩] 9)) := ((Below.refl _ w2).alloc (Nat.le_refl _) _).alloc (by simp) _
  have hg0 : 0 < w2.heap.size := by
    obtain ⟨_, _, h⟩ := hs2
    exact (Array.getElem?_eq_some_iff.1 h).1
  refine wpIn_rangeFunc_ownG rfl (by omega) (gf := 33) (lb := #[.pointer (some ⟨w2.heap.size + 1, 0, none⟩)]) rfl trivial (enters_of Tryd.func33 (by kernel_rfl) rfl)
    (each_stops 3 (by omega) (w2.heap.size + 1) w2.heap.size ⟨#[97, 98, 99]⟩ (by decide) _ (by simp; omega) bN (spans_below hs2 hB0) hg0) kp_t (kp_b (by simp; omega) (by simp)) (Below.refl _ _) (fun _ => rfl)
    (fun pre W => Boxed W w2.heap.size 3 (.int .i64 (pre.length : Int)) ∧ (Below w2.heap.size w2 W ∧ w2.heap.size + 2 ≤ W.heap.size))
    (fun _ _ _ => False)
    (OwnFrom.and (Own.from (boxed_own w2.heap.size 3 (fun pre : List (Of ⟨#[97, 98, 99]⟩) => .int .i64 (pre.length : Int))) _) (OwnFrom.and (ownFrom_below (Nat.le_refl _) (by simp; omega)) (ownFrom_size _ _)))
    (fun _ _ _ _ _ hs _ _ => hs)
    ⟨bO.alloc _, hB0, by simp⟩
    (fun x => { tmps := #[.bool false, .slice (some ⟨g1, o1, none⟩) 3 c1, .slice (some ⟨g2, o2, none⟩) 3 c2, .pointer (some ⟨w2.heap.size, 0, none⟩), .func (.func 33) #[] #[.pointer (some ⟨w2.heap.size + 1, 0, none⟩)], .slice (some ⟨g1, o1, none⟩) 3 c1, .slice (some ⟨g2, o2, none⟩) 3 c2, .func (.func 33) #[] #[.pointer (some ⟨w2.heap.size + 1, 0, none⟩)], .func (.func 33) #[] #[.pointer (some ⟨w2.heap.size + 1, 0, none⟩)], .bool false, .func (.func 33) #[] #[.pointer (some ⟨w2.heap.size + 1, 0, none⟩)], .int .i64 (x.1.1 : Int), .string x.1.2, undef, undef, undef, undef, undef, undef, undef, undef, undef, undef, undef, undef, undef, undef, undef, undef, undef, undef, undef, undef, undef, undef, undef, undef, undef, undef, undef, undef, undef, undef, undef, undef, undef, undef, undef, undef, undef, undef, undef, undef, undef, undef, undef, undef, undef, undef, undef, undef], defers := [] }) ?assign ?body ?done ?stop
  case assign =>
    intro l x W K hK
    gi_wp2
    exact hK
  case body =>
    rintro l pre x W ⟨hv, hB, hsz⟩ hlt
    rw [al_each] at hlt
    have hc := hv.cell
    have hf := hv.frozen
    gi_wp2
    have hbb : Below w2.heap.size W (W.setCell ⟨w2.heap.size, 0, none⟩ (.int .i64 ((pre.length : Int) + 1))) := (Below.refl w2.heap.size W).setCell (p := ⟨w2.heap.size, 0, none⟩) (Nat.le_refl _) _
    refine ⟨(KeepsOthers.setCell _ _ _).from _, ⟨hbb, KeepsWalks.setCell _ _ _, Below.heap_setCell W ⟨w2.heap.size, 0, none⟩ _ (w2.heap.size + 1) (by simp)⟩, ?_, hB.trans hbb, Nat.le_trans hsz (KeepsOthers.setCell _ _ _).size⟩
    have := hv.set (.int .i64 ((pre.length : Int) + 1))
    simpa using this
  case done =>
    rintro D ys W hD hys ⟨hv, hB, hsz⟩ hK
    have hyl : ys.length = 3 := by rw [← vals_length, hys, al_each]
    rw [hyl] at hv
    have hzw := hB.size
    have d0 : W.cell? ⟨g1, o1 + 0, none⟩ = some (.string ⟨#[101, 204, 129]⟩) := by
      rw [hB.cell (p := ⟨g1, o1 + 0, none⟩) (show g1 < _ by omega), hb2.cell (p := ⟨g1, o1 + 0, none⟩) hg1]; exact Hc1.out 0 (by decide)
    have d2 : W.cell? ⟨g1, o1 + 2, none⟩ = some (.string ⟨#[228, 184, 173]⟩) := by
      rw [hB.cell (p := ⟨g1, o1 + 2, none⟩) (show g1 < _ by omega), hb2.cell (p := ⟨g1, o1 + 2, none⟩) hg1]; exact Hc1.out 2 (by decide)
    rw [Nat.add_zero] at d0
    have Hw := wide_calls ⟨#[228, 184, 173]⟩ (by decide) W (spans_below hs2 hB)
    rw [show wideL (⟨#[228, 184, 173]⟩ : ByteArray).data.toList = 2 from al_wide] at Hw
    have HW := Lib.hid Hw
    clear Hw
    gi_wp2_with (refine ⟨trivial, ?_⟩; gi_at_call 21; refine (callsIn_wide.2 HW.out).mono ?_)
    rintro e w3 ⟨rfl, hb3⟩
    have kb3 : Below w2.heap.size w2 w3 := hB.trans (hb3.mono hzw)
    have hK3 : w3.heap[D]? = some (.deferred (some [])) := (hb3.block D (Array.getElem?_eq_some_iff.1 hK).1).trans hK
    have hv3 : Boxed w3 w2.heap.size 3 (.int .i64 3) := (hb3.block _ hv.lt).trans hv
    have e1 : w3.cell? ⟨g2, o2 + 1, none⟩ = some (.int .i64 3) := by
      rw [kb3.cell (p := ⟨g2, o2 + 1, none⟩) hg2]; exact Hc2.out 1 (by decide)
    have Hs := sum_calls ⟨#[101, 204, 129, 120, 228, 184, 173]⟩ (by decide) w3 (spans_below hs2 kb3)
    rw [show sumL (⟨#[101, 204, 129, 120, 228, 184, 173]⟩ : ByteArray).data.toList = 4 from al_sum] at Hs
    have HS := Lib.hid Hs
    have hz3 := hb3.size
    clear Hs HW d0 d2 hK hv hB hb3
    gi_wp2_with (refine ⟨trivial, ?_⟩; gi_at_call 24; refine (callsIn_wide.2 HS.out).mono ?_)
    rintro e w4 ⟨rfl, hb4⟩
    have kb4 : Below w2.heap.size w2 w4 := kb3.trans (hb4.mono kb3.size)
    have hK4 : w4.heap[D]? = some (.deferred (some [])) := (hb4.block D (Array.getElem?_eq_some_iff.1 hK3).1).trans hK3
    have hv4 : Boxed w4 w2.heap.size 3 (.int .i64 3) := (hb4.block _ hv3.lt).trans hv3
    have Hs := show_calls ⟨#[204, 129]⟩ (by decide) w4 (spans_below hs2 kb4)
    rw [show showL (⟨#[204, 129]⟩ : ByteArray).data.toList = [239, 191, 189] from al_show] at Hs
    have HS2 := Lib.hid Hs
    clear Hs HS e1 hK3 hv3 hb4 kb3
    gi_wp2_with (refine ⟨trivial, ?_⟩; gi_at_call 20; refine (callsIn_wide.2 HS2.out).mono ?_)
    rintro e w5 ⟨rfl, hb5⟩
    have kb5 : Below w2.heap.size w2 w5 := kb4.trans (hb5.mono kb4.size)
    have hK5 : w5.heap[D]? = some (.deferred (some [])) := (hb5.block D (Array.getElem?_eq_some_iff.1 hK4).1).trans hK4
    have hv5 : Boxed w5 w2.heap.size 3 (.int .i64 3) := (hb5.block _ hv4.lt).trans hv4
    have Hs := of_calls 97 w5 (spans_below hs2 kb5)
    rw [al_of] at Hs
    have HO := Lib.hid Hs
    clear Hs HS2 hK4 hv4 hb5 kb4
    gi_wp2_with (refine ⟨trivial, ?_⟩; gi_at_call 11; refine (callsIn_wide.2 HO.out).mono ?_)
    rintro e w6 ⟨rfl, hb6⟩
    have kb6 : Below w2.heap.size w2 w6 := kb5.trans (hb6.mono kb5.size)
    have hK6 : w6.heap[D]? = some (.deferred (some [])) := (hb6.block D (Array.getElem?_eq_some_iff.1 hK5).1).trans hK5
    have hv6 : Boxed w6 w2.heap.size 3 (.int .i64 3) := (hb6.block _ hv5.lt).trans hv5
    have hc6 := hv6.cell
    have Hs := ctl_calls 7 w6 (by omega) (by omega)
    rw [al_ctl] at Hs
    have HT := Lib.hid Hs
    clear Hs HO hK5 hv5 hb6 kb5
    gi_wp2_with (refine ⟨trivial, ?_⟩; gi_at_call 13; refine (callsIn_wide.2 HT.out).mono ?_)
    rintro e w7 ⟨rfl, rfl⟩
    gi_wp2
    refine ⟨by simp, .inl ⟨_, _, rfl, run_takeDeferred hK6, ?_⟩⟩
    refine ⟨_, results_tmp rfl _ _ _, rfl, kb2.trans ((kb6.mono kb2.size).trans (belowK_b (w := w) (Nat.le_refl _) w6 D _ _ (by have := kb2.size; simp at hD; omega) hK6 rfl rfl))⟩
  case stop =>
    rintro D c pre W _ _ h _
    exact h.elim
end Go.Proofs.YtfoiihopalcioaaDoor
