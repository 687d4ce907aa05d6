/-
  width.Cut, Bounds, Wide, Show and Sum: what the calls come to, in any memory in which the table lies.
-/
import Derived.Test.YtfoiihopalcioaaDoorEach
import Derived.Test.YtfoiihopalcioaaDoorRowS
import Derived.Test.YtfoiihopalcioaaDoorRowI
import Derived.Test.YtfoiihopalcioaaDoorClean
import Derived.Maps.AppendAt
namespace Go.Proofs.YtfoiihopalcioaaDoor
open Go Go.RowKit Go.Shelf
attribute [local go_sem] Oper.semAt_some

/-- The clusters of a text, as texts. -/
def cutB (s : ByteArray) : List ByteArray := (cutL s.data.toList).map fun c => ⟨c.toArray⟩
theorem eachB_snd (s : ByteArray) : (eachB s).map (·.2) = cutB s := by
  unfold eachB pcs cutB eachL
  rw [List.map_map]
  conv => rhs; rw [← withAt_snd 0 (cutL s.data.toList), List.map_map]
  rfl
theorem eachB_length (s : ByteArray) : (eachB s).length ≤ s.size := by
  unfold eachB pcs eachL
  rw [List.length_map, withAt_length, Lib.size_eq]
  exact cutL_length _

theorem ownFrom_size {β : Type} (B k : Nat) : OwnFrom B (fun (_ : β) W => k ≤ W.heap.size) := fun _ _ _ _ hs hg _ => Nat.le_trans hs hg.size

set_option maxRecDepth 100000 in
set_option maxHeartbeats 4000000 in
theorem cut_calls (s : ByteArray) (hs : s.size ≤ 1099511627776) (w : World) (hsp : Spans w) :
    Calls Tryd.prog 15 #[.string s] w fun e w' => ∃ v, e = .returned v ∧ w'.ownsRow w.heap.size 9 1 v (cutB s).length (cellsS (cutB s)) ∧ Below w.heap.size w w' := by
  obtain ⟨i0, hi, hz0, hz1, hz2⟩ := info_parts infoS
  refine (callsIn_wide (n := 4)).1 ?_
  refine callsIn_of_wp_marks Tryd.func15 rfl trivial ?_ rfl
  simp only [Tryd.ntmps15, List.size_toArray, List.length_cons, List.length_nil, Nat.reduceAdd, Nat.reduceSub, Array.replicate_succ, Array.replicate_zero, List.push_toArray, List.append_toArray, List.nil_append, List.cons_append]
  gi_wp2_with (refine ⟨trivial, ?_⟩; gi_at_call 26; refine (each_in _ _ _).mono ?_; rintro e w' ⟨rfl, rfl⟩)
  have bO := Boxed.new w 27 (.slice none 0 0)
  have bN := Boxed.new (w.alloc (.cells #[.slice none 0 0] 27)) 9 (.string s)
  rw [World.size_alloc] at bN
  have hB0 : Below w.heap.size w ((w.alloc (.cells #[.slice none 0 0] 27)).alloc (.cells #[.string s] 9)) := ((Below.refl _ w).alloc (Nat.le_refl _) _).alloc (by simp) _
  have hN := eachB_length s
  have hg0 : 0 < w.heap.size := by
    obtain ⟨_, _, h⟩ := hsp
    exact (Array.getElem?_eq_some_iff.1 h).1
  refine wpIn_rangeFunc_ownG rfl (by omega) (gf := 33) (lb := #[.pointer (some ⟨w.heap.size + 1, 0, none⟩)]) rfl trivial (enters_of Tryd.func33 (by kernel_rfl) rfl)
    (each_stops 3 (by omega) (w.heap.size + 1) w.heap.size s hs _ (by simp; omega) bN (spans_below hsp hB0) hg0) kp_t (kp_b (by simp; omega) (by simp)) (Below.refl _ _) (fun _ => rfl)
    (fun pre W => (∃ v, Boxed W w.heap.size 27 v ∧ W.ownsRow (w.heap.size + 2) 9 1 v pre.length (cellsS ((vals pre).map (·.2))) ∧ True) ∧ (Below w.heap.size w W ∧ w.heap.size + 2 ≤ W.heap.size))
    (fun _ _ _ => False)
    (OwnFrom.and (Own.from (holdsRow_own (w.heap.size + 2) w.heap.size 27 9 1 (fun pre : List (Of s) => pre.length) (fun pre => cellsS ((vals pre).map (·.2))) (fun _ _ => True)) _) (OwnFrom.and (ownFrom_below (Nat.le_refl _) (by simp; omega)) (ownFrom_size _ _)))
    (fun _ _ _ _ _ hs _ _ => hs)
    ⟨⟨_, bO.alloc _, World.ownsRow_nil _ _ _ _, trivial⟩, hB0, by simp⟩
    (fun x => { tmps := #[.string s, undef, .slice none 0 0, .pointer (some ⟨w.heap.size, 0, none⟩), undef, .string x.1.2, .string s, .func (.func 33) #[] #[.pointer (some ⟨w.heap.size + 1, 0, none⟩)], .int .i64 (x.1.1 : Int), .string x.1.2, undef, undef, undef, undef, undef], defers := [] }) ?assign ?body ?done ?stop
  case assign =>
    intro l x W K hK
    gi_wp2
    exact hK
  case body =>
    rintro l pre x W ⟨⟨v, hv, hrow, _⟩, hB, hsz⟩ hlt
    have hc := hv.cell
    gi_wp2_with (gi_at_builtin; refine wpListIn_append_own _ rfl _ _ 27 rfl (w.heap.size + 2) 9 i0 (.string ⟨#[]⟩) 1 16 Tryd.underlying27 hi hz0 hz1 hz2 rfl (by decide) _ _ _ rfl (hrow.alloc _) ⟨W.heap.size, 0, none⟩ 1 1 [.string x.1.2] rfl rfl (cell_one_new _ _ _) (by simp [Value.oneCell']) (by unfold maxLen; omega) (by omega) (by simp; omega) ?_; intro v' w1 hown' hgrow _; obtain ⟨g', cap', rfl⟩ := ownsRow_succ hown'; obtain ⟨hv1, hv2, hr2, hk2, hb2, hs2⟩ := box_appended hv hrow (by omega) hsz hown' hgrow; have hc1 := hv1.cell; have hf1 := hv1.frozen)
    refine ⟨hk2.from _, ⟨hb2 _ (Nat.le_refl _), ⟨hk2.size, fun k o hk ho => hk2.same k o hk (Obj.not_cells_of_walk ho)⟩, hs2 _ (by omega) (by omega)⟩, ⟨_, hv2, ?_, trivial⟩, hB.trans (hb2 _ (Nat.le_refl _)), Nat.le_trans hsz hk2.size⟩
    rw [vals_snoc, List.map_append, List.map_cons, List.map_nil, cellsS_snoc]
    simpa using hr2
  case done =>
    rintro D ys W hD hys ⟨⟨v, hv, hrow, _⟩, hB, hsz⟩ hK
    have hc := hv.cell
    gi_wp2
    refine ⟨by simp, .inl ⟨_, _, rfl, run_takeDeferred hK, ?_⟩⟩
    refine ⟨_, results_tmp rfl _ _ _, v, rfl, ?_, hB.trans (belowK_b (w := w) (Nat.le_refl _) W D _ _ (by simp at hD; omega) hK rfl rfl)⟩
    have h := ownsRow_putObj hrow (.deferred none) hK rfl
    rw [← vals_length, hys, eachB_snd, show (eachB s).length = (cutB s).length by rw [← eachB_snd, List.length_map]] at h
    exact own_less h (by omega)
  case stop =>
    rintro D c pre W _ _ h _
    exact h.elim

theorem eachB_mem (s : ByteArray) (x : Pc) (h : x ∈ eachB s) : x.2.size ≤ s.size ∧ x.2.data.toList ≠ [] ∧ cutL x.2.data.toList = [x.2.data.toList] := by
  have h1 : x.2 ∈ cutB s := by rw [← eachB_snd]; exact List.mem_map_of_mem h
  unfold cutB at h1
  obtain ⟨c, hc, e⟩ := List.mem_map.1 h1
  obtain ⟨a, b, d⟩ := cut_mem _ c hc
  rw [← e, Lib.size_eq s]
  exact ⟨by rw [Lib.size_eq]; exact d, a, b⟩

set_option maxHeartbeats 2000000 in
theorem wide_list (l : List UInt8) (hl : l.length ≤ 1099511627776) (w : World) (hsp : Spans w) :
    Calls Tryd.prog 21 #[.string ⟨l.toArray⟩] w fun e w' => e = .returned (.int .i64 (wideL l : Int)) ∧ Below w.heap.size w w' := by
  have hs6 := Lib.run_convert_string_bytes (P := Tryd.prog) w 9 38 5 ⟨l.toArray⟩ Tryd.underlying9 Tryd.underlying38 Tryd.underlying5
  have hcap := grownCap_ge w l.length 0 5
  have hcap2 := grownCap_le_maxLen w l.length 0 5 (by unfold maxLen; omega)
  have kw := below_bytes w 5 ⟨l.toArray⟩
  have hn := next_calls _ (grownCap w l.length 0 5) l _ (byt_bytes w l) hcap hcap2
  clear hcap hcap2
  by_cases h0 : l = []
  · rw [show nextL l = (0, 0) by rw [h0]; rfl] at hn
    rw [show wideL l = 0 by rw [h0]; rfl]
    have Hn := Lib.hid hn
    clear hn h0
    go_enter Tryd.func21, Tryd.ntmps21
    go_wp2_with fail
    refine Hn.out.mono ?_
    rintro e w1 ⟨rfl, hb1⟩
    go_wp2
    go_ret
    exact ⟨rfl, kw.trans (hb1.mono kw.size)⟩
  · have hw := Lib.decodeL_width l
    have hv := decodeL_valid l
    have hd : nextL l = Lib.decodeL l := by simp [nextL, h0]
    rw [hd] at hn
    have hwd : wideL l = max 1 (ofL ((Lib.decodeL l).1 : Int)) := by unfold wideL; rw [if_neg h0]
    rw [hwd]
    have hof := ofL_le ((Lib.decodeL l).1 : Int)
    have hne : (((Lib.decodeL l).2 : Int) == 0) = false := beq_eq_false_iff_ne.2 (by omega)
    have Hn := Lib.hid hn
    have Hof := Lib.hid (fun W (h : Spans W) => of_calls ((Lib.decodeL l).1 : Int) W h)
    clear hn h0 hd hwd hv
    generalize ofL ((Lib.decodeL l).1 : Int) = c at *
    go_enter Tryd.func21, Tryd.ntmps21
    go_wp2_with fail
    refine Hn.out.mono ?_
    rintro e w1 ⟨rfl, hb1⟩
    have k1 : Below w.heap.size w w1 := kw.trans (hb1.mono kw.size)
    clear hb1
    go_wp2_with fail
    refine (Hof.out _ (spans_below hsp k1)).mono ?_
    rintro e w2 ⟨rfl, hb2⟩
    have k2 : Below w.heap.size w w2 := k1.trans (hb2.mono k1.size)
    clear hb2
    go_wp2
    go_ret
    exact ⟨by simp; omega, k2⟩
theorem wide_calls (s : ByteArray) (hs : s.size ≤ 1099511627776) (w : World) (hsp : Spans w) :
    Calls Tryd.prog 21 #[.string s] w fun e w' => e = .returned (.int .i64 (wideL s.data.toList : Int)) ∧ Below w.heap.size w w' := by
  have := wide_list s.data.toList (by rw [← Lib.size_eq]; exact hs) w hsp
  simpa using this

set_option maxHeartbeats 2000000 in
theorem show_list (l : List UInt8) (hl : l.length ≤ 1099511627776) (w : World) (hsp : Spans w) :
    Calls Tryd.prog 20 #[.string ⟨l.toArray⟩] w fun e w' => e = .returned (.string ⟨(showL l).toArray⟩) ∧ Below w.heap.size w w' := by
  have hs6 := fun W : World => Lib.run_convert_string_bytes (P := Tryd.prog) W 9 38 5 ⟨l.toArray⟩ Tryd.underlying9 Tryd.underlying38 Tryd.underlying5
  have hcap := grownCap_ge w l.length 0 5
  have hcap2 := grownCap_le_maxLen w l.length 0 5 (by unfold maxLen; omega)
  have kw := below_bytes w 5 ⟨l.toArray⟩
  have hn := next_calls _ (grownCap w l.length 0 5) l _ (byt_bytes w l) hcap hcap2
  have hcl : Hid (∀ W : World, Calls Tryd.prog 31 #[.slice (some ⟨W.heap.size, 0, none⟩) l.length (grownCap W l.length 0 5)] (Lib.bytesWorld W 5 ⟨l.toArray⟩) fun e w' => e = .returned (.string ⟨(cleanL l).toArray⟩) ∧ Below W.heap.size W w') := Lib.hid fun W => by
    have kW := below_bytes W 5 ⟨l.toArray⟩
    exact (clean_calls _ (grownCap W l.length 0 5) l _ (byt_bytes W l) hl).mono (fun e w' h => ⟨h.1, kW.trans (h.2.mono kW.size)⟩)
  clear hcap hcap2
  by_cases h0 : l = []
  · rw [show nextL l = (0, 0) by rw [h0]; rfl] at hn
    have e : showL l = cleanL l := by rw [h0]; rfl
    rw [e]
    have Hn := Lib.hid hn
    clear hn h0 e
    go_enter Tryd.func20, Tryd.ntmps20
    go_wp2_with fail
    refine Hn.out.mono ?_
    rintro e w1 ⟨rfl, hb1⟩
    have k1 : Below w.heap.size w w1 := kw.trans (hb1.mono kw.size)
    clear hb1
    go_wp2_with fail
    refine (hcl.out _).mono ?_
    rintro e w2 ⟨rfl, hb2⟩
    go_wp2
    go_ret
    exact ⟨rfl, k1.trans (hb2.mono k1.size)⟩
  · have hw := Lib.decodeL_width l
    have hd : nextL l = Lib.decodeL l := by simp [nextL, h0]
    have hv := decodeL_valid l
    unfold Valid at hv
    rw [hd] at hn
    have hwd : showL l = if ofL ((Lib.decodeL l).1 : Int) = 0 ∨ ctlL ((Lib.decodeL l).1 : Int) = true then [239, 191, 189] else cleanL l := by unfold showL; rw [if_neg h0]
    have HA := Lib.hid (fun h : ofL ((Lib.decodeL l).1 : Int) = 0 ∨ ctlL ((Lib.decodeL l).1 : Int) = true => show showL l = [239, 191, 189] by rw [hwd, if_pos h])
    have HB := Lib.hid (fun h : ¬ (ofL ((Lib.decodeL l).1 : Int) = 0 ∨ ctlL ((Lib.decodeL l).1 : Int) = true) => show showL l = cleanL l by rw [hwd, if_neg h])
    have hpo : decide ((0 : Int) < ((Lib.decodeL l).2 : Int)) = true := decide_eq_true (by omega)
    have Hn := Lib.hid hn
    have hr1 : -2147483648 ≤ ((Lib.decodeL l).1 : Int) := by omega
    have hr2 : ((Lib.decodeL l).1 : Int) ≤ 2147483647 := by omega
    clear hn h0 hd hwd hv
    have Hof := Lib.hid (fun W (h : Spans W) => of_calls ((Lib.decodeL l).1 : Int) W h)
    have Hct := Lib.hid (fun W => ctl_calls ((Lib.decodeL l).1 : Int) W hr1 hr2)
    clear hr1 hr2
    generalize ofL ((Lib.decodeL l).1 : Int) = c at *
    generalize ctlL ((Lib.decodeL l).1 : Int) = t at *
    generalize showL l = x at *
    go_enter Tryd.func20, Tryd.ntmps20
    go_wp2_with fail
    refine Hn.out.mono ?_
    rintro e w1 ⟨rfl, hb1⟩
    have k1 : Below w.heap.size w w1 := kw.trans (hb1.mono kw.size)
    clear hb1
    go_wp2_with fail
    refine (Hof.out _ (spans_below hsp k1)).mono ?_
    rintro e w2 ⟨rfl, hb2⟩
    have k2 : Below w.heap.size w w2 := k1.trans (hb2.mono k1.size)
    clear hb2 k1
    by_cases hc : c = 0
    · subst hc
      go_wp2
      go_ret
      exact ⟨by rw [HA.out (by simp)]; rfl, k2⟩
    · have hce : ((c : Int) == 0) = false := beq_eq_false_iff_ne.2 (by omega)
      cases t with
      | true =>
        go_wp2_with fail
        refine (Hct.out _).mono ?_
        rintro e w3 ⟨rfl, rfl⟩
        go_wp2
        go_ret
        exact ⟨by rw [HA.out (by simp)]; rfl, k2⟩
      | false =>
        go_wp2_with fail
        refine (Hct.out _).mono ?_
        rintro e w3 ⟨rfl, rfl⟩
        go_wp2_with fail
        refine (hcl.out _).mono ?_
        rintro e w4 ⟨rfl, hb4⟩
        go_wp2
        go_ret
        exact ⟨by rw [HB.out (by simp [hc])]; rfl, k2.trans (hb4.mono k2.size)⟩
theorem show_calls (s : ByteArray) (hs : s.size ≤ 1099511627776) (w : World) (hsp : Spans w) :
    Calls Tryd.prog 20 #[.string s] w fun e w' => e = .returned (.string ⟨(showL s.data.toList).toArray⟩) ∧ Below w.heap.size w w' := by
  have := show_list s.data.toList (by rw [← Lib.size_eq]; exact hs) w hsp
  simpa using this

theorem eachB_fst (s : ByteArray) : (eachB s).map (·.1) ++ [s.size] = boundsL s.data.toList := by
  rw [boundsL_each, ← Lib.size_eq]
  unfold eachB pcs
  rw [List.map_map]
  rfl

set_option maxRecDepth 100000 in
set_option maxHeartbeats 4000000 in
theorem bounds_calls (s : ByteArray) (hs : s.size ≤ 1099511627776) (w : World) (hsp : Spans w) :
    Calls Tryd.prog 16 #[.string s] w fun e w' => ∃ v, e = .returned v ∧ w'.ownsRow w.heap.size 3 1 v (boundsL s.data.toList).length (cells64 (boundsL s.data.toList)) ∧ Below w.heap.size w w' := by
  obtain ⟨i0, hi, hz0, hz1, hz2⟩ := info_parts info64
  refine (callsIn_wide (n := 4)).1 ?_
  refine callsIn_of_wp_marks Tryd.func16 rfl trivial ?_ rfl
  simp only [Tryd.ntmps16, List.size_toArray, List.length_cons, List.length_nil, Nat.reduceAdd, Nat.reduceSub, Array.replicate_succ, Array.replicate_zero, List.push_toArray, List.append_toArray, List.nil_append, List.cons_append]
  gi_wp2_with (refine ⟨trivial, ?_⟩; gi_at_call 26; refine (each_in _ _ _).mono ?_; rintro e w' ⟨rfl, rfl⟩)
  have bO := Boxed.new w 29 (.slice none 0 0)
  have bN := Boxed.new (w.alloc (.cells #[.slice none 0 0] 29)) 9 (.string s)
  rw [World.size_alloc] at bN
  have hB0 : Below w.heap.size w ((w.alloc (.cells #[.slice none 0 0] 29)).alloc (.cells #[.string s] 9)) := ((Below.refl _ w).alloc (Nat.le_refl _) _).alloc (by simp) _
  have hN := eachB_length s
  have hg0 : 0 < w.heap.size := by
    obtain ⟨_, _, h⟩ := hsp
    exact (Array.getElem?_eq_some_iff.1 h).1
  refine wpIn_rangeFunc_ownG rfl (by omega) (gf := 33) (lb := #[.pointer (some ⟨w.heap.size + 1, 0, none⟩)]) rfl trivial (enters_of Tryd.func33 (by kernel_rfl) rfl)
    (each_stops 3 (by omega) (w.heap.size + 1) w.heap.size s hs _ (by simp; omega) bN (spans_below hsp hB0) hg0) kp_t (kp_b (by simp; omega) (by simp)) (Below.refl _ _) (fun _ => rfl)
    (fun pre W => (∃ v, Boxed W w.heap.size 29 v ∧ W.ownsRow (w.heap.size + 2) 3 1 v pre.length (cells64 ((vals pre).map (·.1))) ∧ True) ∧ (Below w.heap.size w W ∧ w.heap.size + 2 ≤ W.heap.size))
    (fun _ _ _ => False)
    (OwnFrom.and (Own.from (holdsRow_own (w.heap.size + 2) w.heap.size 29 3 1 (fun pre : List (Of s) => pre.length) (fun pre => cells64 ((vals pre).map (·.1))) (fun _ _ => True)) _) (OwnFrom.and (ownFrom_below (Nat.le_refl _) (by simp; omega)) (ownFrom_size _ _)))
    (fun _ _ _ _ _ hs _ _ => hs)
    ⟨⟨_, bO.alloc _, World.ownsRow_nil _ _ _ _, trivial⟩, hB0, by simp⟩
    (fun x => { tmps := #[.string s, undef, .slice none 0 0, .pointer (some ⟨w.heap.size, 0, none⟩), .int .i64 (x.1.1 : Int), .string s, .func (.func 33) #[] #[.pointer (some ⟨w.heap.size + 1, 0, none⟩)], .int .i64 (x.1.1 : Int), .string x.1.2, undef, undef, undef, undef, undef, undef, undef, undef, undef], defers := [] }) ?assign ?body ?done ?stop
  case assign =>
    intro l x W K hK
    gi_wp2
    exact hK
  case body =>
    rintro l pre x W ⟨⟨v, hv, hrow, _⟩, hB, hsz⟩ hlt
    have hc := hv.cell
    gi_wp2_with (gi_at_builtin; refine wpListIn_append_own _ rfl _ _ 29 rfl (w.heap.size + 2) 3 i0 (.int .i64 0) 1 8 Tryd.underlying29 hi hz0 hz1 hz2 rfl (by decide) _ _ _ rfl (hrow.alloc _) ⟨W.heap.size, 0, none⟩ 1 1 [.int .i64 (x.1.1 : Int)] rfl rfl (cell_one_new _ _ _) (by simp [Value.oneCell']) (by unfold maxLen; omega) (by omega) (by simp; omega) ?_; intro v' w1 hown' hgrow _; obtain ⟨g', cap', rfl⟩ := ownsRow_succ hown'; obtain ⟨hv1, hv2, hr2, hk2, hb2, hs2⟩ := box_appended hv hrow (by omega) hsz hown' hgrow; have hc1 := hv1.cell; have hf1 := hv1.frozen)
    refine ⟨hk2.from _, ⟨hb2 _ (Nat.le_refl _), ⟨hk2.size, fun k o hk ho => hk2.same k o hk (Obj.not_cells_of_walk ho)⟩, hs2 _ (by omega) (by omega)⟩, ⟨_, hv2, ?_, trivial⟩, hB.trans (hb2 _ (Nat.le_refl _)), Nat.le_trans hsz hk2.size⟩
    rw [vals_snoc, List.map_append, List.map_cons, List.map_nil, cells64_snoc]
    simpa using hr2
  case done =>
    rintro D ys W hD hys ⟨⟨v, hv, hrow, _⟩, hB, hsz⟩ hK
    have hc := hv.cell
    have hyl : ys.length ≤ s.size := by rw [← vals_length, hys]; exact hN
    gi_wp2_with (gi_at_builtin; refine wpListIn_append_own _ rfl _ _ 29 rfl (w.heap.size + 2) 3 i0 (.int .i64 0) 1 8 Tryd.underlying29 hi hz0 hz1 hz2 rfl (by decide) _ _ _ rfl (hrow.alloc _) ⟨W.heap.size, 0, none⟩ 1 1 [.int .i64 (s.size : Int)] rfl rfl (cell_one_new _ _ _) (by simp [Value.oneCell']) (by unfold maxLen; omega) (by omega) (by simp; omega) ?_; intro v' w1 hown' hgrow _)
    replace hgrow : (W.alloc (.cells #[.int .i64 (s.size : Int)] 3)).grownBy w1 v.ownBlock := hgrow
    have hK1 : w1.heap[D]? = some (.deferred (some [])) := by
      have hDl : D < W.heap.size := (Array.getElem?_eq_some_iff.1 hK).1
      rw [hgrow.block D (by simp; omega) (fun e' => ?_), Below.heap_alloc _ _ _ hDl]
      · exact hK
      · rcases hrow.2 with ⟨rfl, _⟩ | ⟨g, cap, cur, rfl, _, hgb, _⟩
        · simp [Value.ownBlock] at e'
        · obtain rfl : D = g := by simpa [Value.ownBlock] using e'
          rw [hK] at hgb; cases hgb
    have hb1 : Below w.heap.size w w1 := (hB.alloc (by omega) _).grown hgrow (by simp; omega) (fun k hk => by have := (hrow.lt k hk).1; omega)
    gi_wp2
    refine ⟨by simp, .inl ⟨_, _, rfl, run_takeDeferred hK1, ?_⟩⟩
    refine ⟨_, results_tmp rfl _ _ _, v', rfl, ?_, hb1.trans (belowK_b (w := w) (Nat.le_refl _) w1 D _ _ (by simp at hD; omega) hK1 rfl rfl)⟩
    have h := ownsRow_putObj hown' (.deferred none) hK1 rfl
    have e1 : cells64 ((vals ys).map (·.1)) ++ [Value.int .i64 (s.size : Int)] = cells64 (boundsL s.data.toList) := by rw [← cells64_snoc, hys, eachB_fst]
    have e2 : ys.length + 1 = (boundsL s.data.toList).length := by rw [← eachB_fst, ← hys]; simp [vals]
    rw [e1, e2] at h
    exact own_less h (by omega)
  case stop =>
    rintro D c pre W _ _ h _
    exact h.elim
end Go.Proofs.YtfoiihopalcioaaDoor
