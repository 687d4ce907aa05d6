/-
  Layer 7 and what it stands on, part 19 (BackOn).
-/
import Derived.Test.YtlmbafnoopfilaaGreatDoorPg18
import Derived.Deep.Cut
import Derived.Laws.Concat
import Derived.Laws.Rows
import Derived.Deep.RegionHeld3
import Derived.Deep.RegionLaw
import Derived.BigRegion
import Derived.RangeFuncBox
namespace Go.Proofs.YtlmbafnoopfilaaGreatDoor
section
open Go Go.RowKit Go.Shelf
attribute [local go_sem] Oper.semAt_some
theorem results_boxI {P : Program} {fn : Func} {p : Tmp} {ty : TypeId} (h : fn.results = #[.cell p ty]) (tmps : Array Value) (w : World) (g : Nat) (v : Value) (t : TypeId)
    (hp : tmps.getD p undef = .pointer (some ⟨g, 0, none⟩)) (hb : Boxed w g t v) (hu : P.underlying ty = some (.int .i64)) : (results fn tmps).run P w = .ok v w := by
  have hp' : tmps[p]?.getD undef = .pointer (some ⟨g, 0, none⟩) := by simpa using hp
  have hc := hb.cell
  simp [results, h, hp', asAddr, loadVar, isAgg, Sem.run_bind, run_underlying hu, hc, go_sem]
/-- Where the last of some clusters begins (0, if there is none). -/
def lst (xs : List Pc) : Nat := (xs.map (·.1)).getLastD 0
theorem lst_snoc (xs : List Pc) (x : Pc) : lst (xs ++ [x]) = x.1 := by simp [lst]
theorem starts (l : List UInt8) : (eachB (bs l)).map (·.1) = (List.range (cutL l).length).map (pos (cutL l)) := by
  have h := eachB_fst (bs l)
  rw [show (bs l).data.toList = l from rfl, boundsL_pos, List.range_succ, List.map_append] at h
  exact (List.append_inj' h (by simp)).1
theorem starts_pre (l : List UInt8) {xs : List Pc} (h : xs <+: eachB (bs l)) : xs.length ≤ (cutL l).length ∧ xs.map (·.1) = (List.range xs.length).map (pos (cutL l)) := by
  have h1 := h.map (·.1)
  rw [starts] at h1
  have hl : xs.length ≤ (cutL l).length := by have := h1.length_le; simpa using this
  refine ⟨hl, ?_⟩
  have h2 := List.prefix_iff_eq_take.1 h1
  rw [h2, ← List.map_take, List.take_range, List.length_map, Nat.min_eq_left hl]
theorem lst_pre (l : List UInt8) {xs : List Pc} (h : xs <+: eachB (bs l)) : lst xs = pos (cutL l) (xs.length - 1) := by
  have h1 := (starts_pre l h).2
  unfold lst
  rw [h1]
  cases hn : xs.length with
  | zero => simp [pos_zero]
  | succ n => rw [List.range_succ, List.map_append]; simp
theorem mem_pre (l : List UInt8) {xs : List Pc} (h : xs <+: eachB (bs l)) {k : Nat} (hk : k < xs.length) : ∃ y ∈ xs, y.1 = pos (cutL l) k := by
  have h1 := (starts_pre l h).2
  have h2 : pos (cutL l) k ∈ xs.map (·.1) := by
    rw [h1]
    exact List.mem_map.2 ⟨k, List.mem_range.2 hk, rfl⟩
  obtain ⟨y, hy, e⟩ := List.mem_map.1 h2
  exact ⟨y, hy, e⟩
/-- What is found behind a walk over all clusters, or over some, where the next one begins above n. -/
theorem back_done (l : List UInt8) {n : Int} (hn : n < (l.length : Int)) {xs : List Pc} (h : xs = eachB (bs l)) (hle : ∀ y ∈ xs, (y.1 : Int) ≤ n) : lst xs = backL l n := by
  have hp : xs <+: eachB (bs l) := by rw [h]; exact List.prefix_refl _
  have hlen : xs.length = (cutL l).length := by rw [h, ← List.length_map (f := (·.1)), starts]; simp
  rw [lst_pre l hp]
  unfold backL
  congr 1
  symm
  refine bk_uniq (by omega) ?_ fun h1 => ?_
  · by_cases h0 : xs.length = 0
    · exact .inl (by omega)
    · obtain ⟨y, hy, e⟩ := mem_pre l hp (k := xs.length - 1) (by omega)
      have := hle y hy
      exact .inr (by rw [← e]; exact this)
  · have : pos (cutL l) (xs.length - 1 + 1) = l.length := by
      rw [pos_all _ _ (by omega), cutL_flatten]
    rw [this]; exact hn
theorem back_stop (l : List UInt8) {n : Int} {xs : List Pc} {x : Pc} (h : xs ++ [x] <+: eachB (bs l)) (hle : ∀ y ∈ xs, (y.1 : Int) ≤ n) (hx : n < (x.1 : Int)) : lst xs = backL l n := by
  have hp : xs <+: eachB (bs l) := (List.prefix_append _ _).trans h
  have hl := (starts_pre l h).1
  rw [List.length_append, List.length_singleton] at hl
  have e2 : x.1 = pos (cutL l) xs.length := by
    have := lst_pre l h
    rw [lst_snoc] at this
    rw [this]; simp
  rw [lst_pre l hp]
  unfold backL
  congr 1
  symm
  refine bk_uniq (by omega) ?_ fun h1 => ?_
  · by_cases h0 : xs.length = 0
    · exact .inl (by omega)
    · obtain ⟨y, hy, e⟩ := mem_pre l hp (k := xs.length - 1) (by omega)
      have := hle y hy
      exact .inr (by rw [← e]; exact this)
  · have := pos_mono (cutL l) (show xs.length ≤ xs.length - 1 + 1 by omega)
    omega
theorem on_done (l : List UInt8) {n : Int} {xs : List Pc} (h : xs = eachB (bs l)) (hlt : ∀ y ∈ xs, (y.1 : Int) < n) : l.length = onL l n := by
  have hp : xs <+: eachB (bs l) := by rw [h]; exact List.prefix_refl _
  have hlen : xs.length = (cutL l).length := by rw [h, ← List.length_map (f := (·.1)), starts]; simp
  unfold onL
  rw [ok_uniq (cs := cutL l) (n := n) (j := (cutL l).length) (Nat.le_refl _) (.inl rfl) fun h0 => ?_, pos_all _ _ (Nat.le_refl _), cutL_flatten]
  obtain ⟨y, hy, e⟩ := mem_pre l hp (k := (cutL l).length - 1) (by omega)
  rw [← e]; exact hlt y hy
theorem on_stop (l : List UInt8) {n : Int} {xs : List Pc} {x : Pc} (h : xs ++ [x] <+: eachB (bs l)) (hlt : ∀ y ∈ xs, (y.1 : Int) < n) (hx : n ≤ (x.1 : Int)) : x.1 = onL l n := by
  have hp : xs <+: eachB (bs l) := (List.prefix_append _ _).trans h
  have hl := (starts_pre l h).1
  rw [List.length_append, List.length_singleton] at hl
  have e2 : x.1 = pos (cutL l) xs.length := by
    have := lst_pre l h
    rw [lst_snoc] at this
    rw [this]; simp
  unfold onL
  rw [ok_uniq (cs := cutL l) (n := n) (j := xs.length) (by omega) (.inr (by rw [← e2]; exact hx)) fun h0 => ?_, ← e2]
  obtain ⟨y, hy, e⟩ := mem_pre l hp (k := xs.length - 1) (by omega)
  rw [← e]; exact hlt y hy
/-- What a walk over clusters knows of those that it has met. -/
def BackIn (n : Int) (xs : List Pc) : Prop := ∀ y ∈ xs, (y.1 : Int) ≤ n
def BackOut (n : Int) {s : ByteArray} (pre : List (Of s)) : Prop := ∃ x, pre = pre.dropLast ++ [x] ∧ n < (x.1.1 : Int) ∧ BackIn n (vals pre.dropLast)
def OnIn (n : Int) (xs : List Pc) : Prop := ∀ y ∈ xs, (y.1 : Int) < n
def OnOut (n : Int) {s : ByteArray} (pre : List (Of s)) : Prop := ∃ x, pre = pre.dropLast ++ [x] ∧ n ≤ (x.1.1 : Int) ∧ OnIn n (vals pre.dropLast)
theorem backIn_snoc {n : Int} {xs : List Pc} (h : BackIn n xs) {x : Pc} (hx : (x.1 : Int) ≤ n) : BackIn n (xs ++ [x]) := fun y hy => by
  rcases List.mem_append.1 hy with h1 | h1
  · exact h y h1
  · rw [List.mem_singleton.1 h1]; exact hx
theorem onIn_snoc {n : Int} {xs : List Pc} (h : OnIn n xs) {x : Pc} (hx : (x.1 : Int) < n) : OnIn n (xs ++ [x]) := fun y hy => by
  rcases List.mem_append.1 hy with h1 | h1
  · exact h y h1
  · rw [List.mem_singleton.1 h1]; exact hx
set_option maxHeartbeats 2000000 in
theorem back_far (l : List UInt8) (n : Int) (hn : (l.length : Int) ≤ n) (w : World) :
    Calls Tryz.prog 33 #[.string (bs l), .int .i64 n] w fun e w' => e = .returned (.int .i64 (backL l n : Int)) ∧ Below w.heap.size w w' := by
  rw [backL_all l n hn]
  have hsz := bs_size l
  have hd : decide ((l.length : Int) ≤ n) = true := decide_eq_true hn
  go_enter Tryz.func33, Tryz.ntmps33
  go_wp2
  go_ret
  exact ⟨rfl, (Below.refl _ w).alloc (Nat.le_refl _) _⟩
set_option maxRecDepth 100000 in
set_option maxHeartbeats 4000000 in
theorem back_near (l : List UInt8) (n : Int) (hl : l.length ≤ 1099511627776) (hn : n < (l.length : Int)) (w : World) (hsp : Spans w) :
    Calls Tryz.prog 33 #[.string (bs l), .int .i64 n] w fun e w' => e = .returned (.int .i64 (backL l n : Int)) ∧ Below w.heap.size w w' := by
  have hsz := bs_size l
  have hd : decide ((l.length : Int) ≤ n) = false := decide_eq_false (by omega)
  refine (callsIn_wide (n := 4)).1 ?_
  refine callsIn_of_wp_marks Tryz.func33 rfl trivial ?_ rfl
  simp only [Tryz.ntmps33, List.size_toArray, List.length_cons, List.length_nil, Nat.reduceAdd, Nat.reduceSub, Array.replicate_succ, Array.replicate_zero, List.push_toArray, List.append_toArray, List.nil_append, List.cons_append]
  gi_wp2_with (refine ⟨trivial, ?_⟩; gi_at_call 48; refine (each_in _ _ _).mono ?_; rintro e w' ⟨rfl, rfl⟩)
  obtain ⟨W0, hW0⟩ : ∃ W0, ((w.alloc (.cells #[.int .i64 n] 3)).alloc (.cells #[.int .i64 0] 3)).alloc (.cells #[.string (bs l)] 9) = W0 := ⟨_, rfl⟩
  have x0 := ((Boxed.new w 3 (.int .i64 n)).alloc (.cells #[.int .i64 0] 3)).alloc (.cells #[.string (bs l)] 9)
  have x1 := (Boxed.new (w.alloc (.cells #[.int .i64 n] 3)) 3 (.int .i64 0)).alloc (.cells #[.string (bs l)] 9)
  have x2 := Boxed.new ((w.alloc (.cells #[.int .i64 n] 3)).alloc (.cells #[.int .i64 0] 3)) 9 (.string (bs l))
  simp only [World.size_alloc] at x1 x2
  have hszW : W0.heap.size = w.heap.size + 3 := by rw [← hW0]; simp
  have hbW : Below w.heap.size w W0 := by
    rw [← hW0]
    exact (((Below.refl _ w).alloc (Nat.le_refl _) _).alloc (by simp) _).alloc (by simp; omega) _
  rw [hW0] at x0 x1 x2 ⊢
  clear hW0 hd
  have hg0 : 0 < w.heap.size := by
    obtain ⟨_, _, h⟩ := hsp
    exact (Array.getElem?_eq_some_iff.1 h).1
  refine wpIn_rangeFunc_ownG rfl (by omega) (gf := 63) (lb := #[.pointer (some ⟨w.heap.size + 1 + 1, 0, none⟩)]) rfl trivial (enters_of Tryz.func63 (by kernel_rfl) rfl)
    (each_stops 3 (by omega) (w.heap.size + 1 + 1) w.heap.size (bs l) (by omega) _ (by omega) x2 (spans_below hsp hbW) hg0) kp_t (kp_b (by omega) (by omega)) (Below.refl _ _) (fun _ => rfl)
    (fun pre W => Boxed W (w.heap.size + 1) 3 (.int .i64 (lst (vals pre) : Int)) ∧ (Boxed W w.heap.size 3 (.int .i64 n) ∧ ((Below w.heap.size w W ∧ w.heap.size + 3 ≤ W.heap.size) ∧ BackIn n (vals pre))))
    (fun c pre W => c = .exit 0 ∧ (Boxed W (w.heap.size + 1) 3 (.int .i64 (lst (vals pre.dropLast) : Int)) ∧ ((Below w.heap.size w W ∧ w.heap.size + 3 ≤ W.heap.size) ∧ BackOut n pre)))
    (OwnFrom.and (Own.from (boxed_own (w.heap.size + 1) 3 (fun pre : List (Of (bs l)) => .int .i64 (lst (vals pre) : Int))) _) (OwnFrom.and (Own.from (boxed_own w.heap.size 3 (fun _ : List (Of (bs l)) => .int .i64 n)) _) (OwnFrom.and (OwnFrom.and (ownFrom_below (Nat.le_refl _) (by omega)) (ownFrom_size _ _)) (ownFrom_pure _ _))))
    (fun c => OwnFrom.and (ownFrom_pure _ (fun _ => c = .exit 0)) (OwnFrom.and (Own.from (boxed_own (w.heap.size + 1) 3 (fun pre : List (Of (bs l)) => .int .i64 (lst (vals pre.dropLast) : Int))) _) (OwnFrom.and (OwnFrom.and (ownFrom_below (Nat.le_refl _) (by omega)) (ownFrom_size _ _)) (ownFrom_pure _ _))))
    ⟨x1, x0, ⟨hbW, by omega⟩, fun _ h => by cases h⟩
    (fun x => { tmps := #[.string (bs l), .int .i64 n, undef, .pointer (some ⟨w.heap.size, 0, none⟩), .int .i64 0, .pointer (some ⟨w.heap.size + 1, 0, none⟩), .int .i64 (x.1.1 : Int), .int .i64 n, .string (bs l), .int .i64 (l.length : Int), .bool false, undef, undef, .string (bs l), .func (.func 63) #[] #[.pointer (some ⟨w.heap.size + 1 + 1, 0, none⟩)], .int .i64 (x.1.1 : Int), .string x.1.2, undef, undef, undef, undef, undef], defers := [] }) ?assign ?body ?done ?stop
  case assign =>
    intro l' x W K hK
    gi_wp2
    exact hK
  case body =>
    rintro l' pre x W ⟨hb, hn, ⟨hB, hsz3⟩, hle⟩ hlt
    have cb := hb.cell
    have fb := hb.frozen
    have cn := hn.cell
    obtain ⟨⟨xa, xs⟩, hxm⟩ := x
    have Hb := Lib.hid hb
    have Hn := Lib.hid hn
    have HB := Lib.hid hB
    clear hb hn hB
    simp only
    by_cases h1 : n < (xa : Int)
    · have hd1 : decide (n < (xa : Int)) = true := decide_eq_true h1
      gi_wp2
      refine ⟨KeepsFrom.refl _ _, rfl, ?_, ⟨HB.out, hsz3⟩, ⟨⟨(xa, xs), hxm⟩, by rw [List.dropLast_concat], h1, by rw [List.dropLast_concat]; exact hle⟩⟩
      rw [List.dropLast_concat]
      exact Hb.out
    · have hd1 : decide (n < (xa : Int)) = false := decide_eq_false h1
      gi_wp2
      refine ⟨(KeepsOthers.setCell _ _ _).from _, ⟨(Below.refl w.heap.size W).setCell (p := ⟨w.heap.size + 1, 0, none⟩) (Nat.le_succ _) _, KeepsWalks.setCell _ _ _, Below.heap_setCell W ⟨w.heap.size + 1, 0, none⟩ _ (w.heap.size + 1 + 1) (by simp)⟩, ?_, Hn.out.other (by omega) _, ⟨HB.out.setCell (p := ⟨w.heap.size + 1, 0, none⟩) (Nat.le_succ _) _, Nat.le_trans hsz3 (KeepsOthers.setCell _ _ _).size⟩, ?_⟩
      · rw [vals_snoc, lst_snoc]
        exact Hb.out.set _
      · rw [vals_snoc]
        exact backIn_snoc hle (by simp only; omega)
  case done =>
    rintro D ys W hD hys ⟨hb, hn, ⟨hB, hsz3⟩, hle⟩ hK
    have cb := hb.cell
    have He := Lib.hid (back_done l (by assumption) hys hle)
    gi_wp2
    refine ⟨by simp, .inl ⟨_, _, rfl, run_takeDeferred hK, ?_⟩⟩
    refine ⟨_, results_tmp rfl _ _ _, ?_, hB.trans (belowK_b (w := w) (Nat.le_refl _) W D _ _ (by omega) hK rfl rfl)⟩
    rw [← He.out, hys]; rfl
  case stop =>
    rintro D c pre W hD hSp ⟨rfl, hb, ⟨hB, hsz3⟩, x, hx1, hx2, hx3⟩ hK
    have cb := hb.cell
    have hv : vals pre = vals pre.dropLast ++ [x.1] := by
      conv => lhs; rw [hx1]
      exact vals_snoc _ _
    have He := Lib.hid (back_stop l (by rw [← hv]; exact hSp) hx3 hx2)
    clear hx1 hv
    gi_wp2
    refine ⟨by simp, .inl ⟨_, _, rfl, run_takeDeferred hK, ?_⟩⟩
    refine ⟨_, results_tmp rfl _ _ _, ?_, hB.trans (belowK_b (w := w) (Nat.le_refl _) W D _ _ (by omega) hK rfl rfl)⟩
    rw [← He.out]; rfl
theorem back_calls (l : List UInt8) (n : Int) (hl : l.length ≤ 1099511627776) (w : World) (hsp : Spans w) :
    Calls Tryz.prog 33 #[.string (bs l), .int .i64 n] w fun e w' => e = .returned (.int .i64 (backL l n : Int)) ∧ Below w.heap.size w w' := by
  by_cases h : (l.length : Int) ≤ n
  · exact back_far l n h w
  · exact back_near l n hl (by omega) w hsp
set_option maxRecDepth 100000 in
set_option maxHeartbeats 4000000 in
theorem on_calls (l : List UInt8) (n : Int) (hl : l.length ≤ 1099511627776) (w : World) (hsp : Spans w) :
    Calls Tryz.prog 39 #[.string (bs l), .int .i64 n] w fun e w' => e = .returned (.int .i64 (onL l n : Int)) ∧ Below w.heap.size w w' := by
  have hsz := bs_size l
  refine (callsIn_wide (n := 4)).1 ?_
  refine callsIn_of_wp_marks Tryz.func39 rfl trivial ?_ rfl
  simp only [Tryz.ntmps39, List.size_toArray, List.length_cons, List.length_nil, Nat.reduceAdd, Nat.reduceSub, Array.replicate_succ, Array.replicate_zero, List.push_toArray, List.append_toArray, List.nil_append, List.cons_append]
  gi_wp2_with (refine ⟨trivial, ?_⟩; gi_at_call 48; refine (each_in _ _ _).mono ?_; rintro e w' ⟨rfl, rfl⟩)
  obtain ⟨W0, hW0⟩ : ∃ W0, ((w.alloc (.cells #[.int .i64 n] 3)).alloc (.cells #[.int .i64 0] 3)).alloc (.cells #[.string (bs l)] 9) = W0 := ⟨_, rfl⟩
  have x0 := ((Boxed.new w 3 (.int .i64 n)).alloc (.cells #[.int .i64 0] 3)).alloc (.cells #[.string (bs l)] 9)
  have x1 := (Boxed.new (w.alloc (.cells #[.int .i64 n] 3)) 3 (.int .i64 0)).alloc (.cells #[.string (bs l)] 9)
  have x2 := Boxed.new ((w.alloc (.cells #[.int .i64 n] 3)).alloc (.cells #[.int .i64 0] 3)) 9 (.string (bs l))
  simp only [World.size_alloc] at x1 x2
  have hszW : W0.heap.size = w.heap.size + 3 := by rw [← hW0]; simp
  have hbW : Below w.heap.size w W0 := by
    rw [← hW0]
    exact (((Below.refl _ w).alloc (Nat.le_refl _) _).alloc (by simp) _).alloc (by simp; omega) _
  rw [hW0] at x0 x1 x2 ⊢
  clear hW0
  have hg0 : 0 < w.heap.size := by
    obtain ⟨_, _, h⟩ := hsp
    exact (Array.getElem?_eq_some_iff.1 h).1
  refine wpIn_rangeFunc_ownG rfl (by omega) (gf := 63) (lb := #[.pointer (some ⟨w.heap.size + 1 + 1, 0, none⟩)]) rfl trivial (enters_of Tryz.func63 (by kernel_rfl) rfl)
    (each_stops 3 (by omega) (w.heap.size + 1 + 1) w.heap.size (bs l) (by omega) _ (by omega) x2 (spans_below hsp hbW) hg0) kp_t (kp_b (by omega) (by omega)) (Below.refl _ _) (fun _ => rfl)
    (fun pre W => Boxed W (w.heap.size + 1) 3 (.int .i64 0) ∧ (Boxed W w.heap.size 3 (.int .i64 n) ∧ ((Below w.heap.size w W ∧ w.heap.size + 3 ≤ W.heap.size) ∧ OnIn n (vals pre))))
    (fun c pre W => c = .ret ∧ (Boxed W (w.heap.size + 1) 3 (.int .i64 (lst (vals pre) : Int)) ∧ ((Below w.heap.size w W ∧ w.heap.size + 3 ≤ W.heap.size) ∧ OnOut n pre)))
    (OwnFrom.and (Own.from (boxed_own (w.heap.size + 1) 3 (fun _ : List (Of (bs l)) => .int .i64 0)) _) (OwnFrom.and (Own.from (boxed_own w.heap.size 3 (fun _ : List (Of (bs l)) => .int .i64 n)) _) (OwnFrom.and (OwnFrom.and (ownFrom_below (Nat.le_refl _) (by omega)) (ownFrom_size _ _)) (ownFrom_pure _ _))))
    (fun c => OwnFrom.and (ownFrom_pure _ (fun _ => c = .ret)) (OwnFrom.and (Own.from (boxed_own (w.heap.size + 1) 3 (fun pre : List (Of (bs l)) => .int .i64 (lst (vals pre) : Int))) _) (OwnFrom.and (OwnFrom.and (ownFrom_below (Nat.le_refl _) (by omega)) (ownFrom_size _ _)) (ownFrom_pure _ _))))
    ⟨x1, x0, ⟨hbW, by omega⟩, fun _ h => by cases h⟩
    (fun x => { tmps := #[.string (bs l), .int .i64 n, undef, .pointer (some ⟨w.heap.size, 0, none⟩), .pointer (some ⟨w.heap.size + 1, 0, none⟩), .int .i64 (x.1.1 : Int), .string (bs l), .func (.func 63) #[] #[.pointer (some ⟨w.heap.size + 1 + 1, 0, none⟩)], .int .i64 (x.1.1 : Int), .string x.1.2, undef, undef, undef, undef, undef, undef], defers := [] }) ?assign ?body ?done ?stop
  case assign =>
    intro l' x W K hK
    gi_wp2
    exact hK
  case body =>
    rintro l' pre x W ⟨hb, hn, ⟨hB, hsz3⟩, hle⟩ hlt
    have cb := hb.cell
    have fb := hb.frozen
    have cn := hn.cell
    obtain ⟨⟨xa, xs⟩, hxm⟩ := x
    have Hb := Lib.hid hb
    have Hn := Lib.hid hn
    have HB := Lib.hid hB
    clear hb hn hB
    simp only
    by_cases h1 : n ≤ (xa : Int)
    · have hd1 : decide (n ≤ (xa : Int)) = true := decide_eq_true h1
      gi_wp2
      refine ⟨(KeepsOthers.setCell _ _ _).from _, rfl, ?_, ⟨HB.out.setCell (p := ⟨w.heap.size + 1, 0, none⟩) (Nat.le_succ _) _, Nat.le_trans hsz3 (KeepsOthers.setCell _ _ _).size⟩, ⟨⟨(xa, xs), hxm⟩, by rw [List.dropLast_concat], h1, by rw [List.dropLast_concat]; exact hle⟩⟩
      rw [vals_snoc, lst_snoc]
      exact Hb.out.set _
    · have hd1 : decide (n ≤ (xa : Int)) = false := decide_eq_false h1
      gi_wp2
      refine ⟨KeepsFrom.refl _ _, ⟨Below.refl _ _, ⟨Nat.le_refl _, fun _ _ h _ => h⟩, rfl⟩, Hb.out, Hn.out, ⟨HB.out, hsz3⟩, ?_⟩
      rw [vals_snoc]
      exact onIn_snoc hle (by simp only; omega)
  case done =>
    rintro D ys W hD hys ⟨hb, hn, ⟨hB, hsz3⟩, hle⟩ hK
    have cb := hb.cell
    have fb := hb.frozen
    have He := Lib.hid (on_done l hys hle)
    have Hb := Lib.hid hb
    have HB := Lib.hid hB
    have HK := Lib.hid hK
    clear hb hB hK
    gi_wp2
    refine ⟨by simp, .inl ⟨_, _, rfl, run_takeDeferred (w := W.setCell ⟨w.heap.size + 1, 0, none⟩ _) ((Below.heap_setCell W ⟨w.heap.size + 1, 0, none⟩ _ D (by simp; omega)).trans HK.out), ?_⟩⟩
    refine ⟨_, results_boxI rfl _ _ (w.heap.size + 1) (.int .i64 (l.length : Int)) 3 rfl ((World.putObj_heap_other (by omega)).trans (Hb.out.set _)) Tryz.underlying3, by rw [He.out], ?_⟩
    exact (HB.out.setCell (p := ⟨w.heap.size + 1, 0, none⟩) (Nat.le_succ _) _).trans (belowK_b (w := w) (Nat.le_refl _) _ D _ _ (by omega) ((Below.heap_setCell W ⟨w.heap.size + 1, 0, none⟩ _ D (by simp; omega)).trans HK.out) rfl rfl)
  case stop =>
    rintro D c pre W hD hSp ⟨rfl, hb, ⟨hB, hsz3⟩, x, hx1, hx2, hx3⟩ hK
    have hv : vals pre = vals pre.dropLast ++ [x.1] := by
      conv => lhs; rw [hx1]
      exact vals_snoc _ _
    have He := Lib.hid (on_stop l (by rw [← hv]; exact hSp) hx3 hx2)
    have Hl : Hid (lst (vals pre) = x.1.1) := Lib.hid (by rw [hv, lst_snoc])
    clear hx1 hv
    gi_wp2
    refine ⟨by simp, .inl ⟨_, _, rfl, run_takeDeferred hK, ?_⟩⟩
    refine ⟨_, results_boxI rfl _ _ (w.heap.size + 1) (.int .i64 (lst (vals pre) : Int)) 3 rfl ((World.putObj_heap_other (by omega)).trans hb) Tryz.underlying3, by rw [Hl.out, He.out], ?_⟩
    exact hB.trans (belowK_b (w := w) (Nat.le_refl _) W D _ _ (by omega) hK rfl rfl)
end
end Go.Proofs.YtlmbafnoopfilaaGreatDoor
