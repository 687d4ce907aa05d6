/-
  The walk of TextBack.
-/
import Derived.Test.YtifdgaklchihbaaDoorTAlive
import Derived.Test.YtifdgaklchihbaaDoorFew
namespace Go.Proofs.YtifdgaklchihbaaDoor
open Go Go.RowKit

theorem cutR_rt' {m : List UInt8} {a : Nat} (h : Rt m a) (x y : Int) : Rt (cutR m a (backL m x) (backL m y)).1 (cutR m a (backL m x) (backL m y)).2.1 := by
  unfold cutR
  split
  · exact cut_rt h (isB_back _ _) (isB_back _ _) (by assumption)
  · exact h
/-- What was put in, cut again. -/
theorem back_ins {m p : List UInt8} {a : Nat} (h : Rt m a) (hp : PlainP p) (h6 : m.length + p.length ≤ 600) (hA : insA m a p = a + p.length) (hc : (cutL (insS m a p)).length = (cutL m).length + (cutL p).length) :
    cutR (insS m a p) (insA m a p) (backL (insS m a p) (a : Int)) (backL (insS m a p) (insA m a p : Int)) = (m, a, p) := by
  have hr := ins_rt h hp h6
  have hB := ins_isB h hp hc
  rw [hB.back, hr.2.2.back, hA]
  obtain ⟨e1, e2⟩ := cut_ins (p := p) h.2.2.le
  unfold cutR
  by_cases h0 : p = []
  · subst h0
    have : insS m a [] = m := by unfold insS; simp
    rw [if_neg (by simp), this]
    simp
  · have hl := List.length_pos_iff.2 h0
    rw [if_pos (by omega), e1, e2]
    have e3 : cutA (insS m a p) (a + p.length) a (a + p.length) = a := by
      unfold cutA cutAt
      rw [e1, if_pos (by omega), show max a (a + p.length - (a + p.length - a)) = a by omega, h.2.2.back]
    rw [e3]
/-- What was cut, put in again. -/
theorem ins_back {m : List UInt8} {a : Nat} (h : Rt m a) (to : Int) :
    PlainP (cutR m a a (backL m to)).2.2 ∧ (cutR m a a (backL m to)).1.length + (cutR m a a (backL m to)).2.2.length ≤ 600 ∧
      ((cutR m a a (backL m to)).2.1 = a → insS (cutR m a a (backL m to)).1 a (cutR m a a (backL m to)).2.2 = m) := by
  unfold cutR
  split
  · rename_i hlt
    have ht := isB_back m to
    have hl := h.2.1
    have h1 := cutS_length m a (backL m to) (by omega) ht.le
    have h2 := goneS_length m a (backL m to) ht.le
    refine ⟨h.2.2.mid_P ht h.1 (by omega), by simp only; omega, fun _ => ins_cut (by omega) ht.le⟩
  · refine ⟨PlainP.nil, by simp only [List.length_nil]; exact h.2.1, fun _ => ?_⟩
    unfold insS
    simp
set_option maxHeartbeats 1000000 in
theorem lback_big (s t : ByteArray) (n to : Int) (w : World) (hs : s.size + t.size ≤ 9223372036854775807) (hb : 1500 < s.size + t.size) (hsp : Spans w) :
    Calls Tryd.prog 7 #[.agg #[.string s, .int .i64 n], .string t, .int .i64 to] w fun e w' => e = .returned (.bool true) ∧ Below w.heap.size w w' := by
  have HF := few_two s t (w.alloc (.cells #[.string s, .int .i64 n] 27)) hs
  rw [decide_eq_false (show ¬ s.size + t.size ≤ 1500 by omega), World.size_alloc] at HF
  have HFew := Lib.hid HF
  have b0 := Bx.new w 27 (.string s) (.int .i64 n)
  have c0 := b0.c0
  have c1 := b0.c1
  have k0 : Below w.heap.size w ((w.alloc (.cells #[.string s, .int .i64 n] 27)).alloc (.cells #[.string s, .string t] 9)) := ((Below.refl _ w).alloc (Nat.le_refl _) _).alloc (by simp) _
  have hcon := Lib.hid (talive_calls _ (spans_below hsp k0))
  clear HF hsp b0
  go_enter Tryd.func7, Tryd.ntmps7
  go_wp2_with fail
  refine HFew.out.mono ?_
  rintro e w1 ⟨rfl, rfl⟩
  go_wp2_with fail
  refine hcon.out.mono ?_
  rintro e w2 ⟨rfl, h⟩
  go_wp2
  go_ret
  exact ⟨rfl, k0.trans (h.mono k0.size)⟩


set_option maxHeartbeats 8000000 in
theorem lback_n (l s : List UInt8) (n to : Int) (w : World) (hb : l.length + s.length ≤ 1500) (h6 : 600 < (mS l).length + (plainL s).length) (hsp : Spans w) :
    Calls Tryd.prog 7 #[.agg #[.string (bs l), .int .i64 n], .string (bs s), .int .i64 to] w fun e w' => e = .returned (.bool true) ∧ Below w.heap.size w w' := by
  have hsz := bs_size l
  have hsz2 := bs_size s
  have HF := few_two (bs l) (bs s) (w.alloc (.cells #[.string (bs l), .int .i64 n] 27)) (by omega)
  rw [decide_eq_true (show (bs l).size + (bs s).size ≤ 1500 by omega), World.size_alloc] at HF
  have HFew := Lib.hid HF
  have b0 := (Bx.new w 27 (.string (bs l)) (.int .i64 n))
  have c0 := b0.c0
  have c1 := b0.c1
  have b1 := b0.alloc (.cells #[.string (bs l), .string (bs s)] 9)
  have k1 : Below w.heap.size w ((w.alloc (.cells #[.string (bs l), .int .i64 n] 27)).alloc (.cells #[.string (bs l), .string (bs s)] 9)) := ((Below.refl _ w).alloc (Nat.le_refl _) _).alloc (by simp) _
  have d0 := b1.c0
  have d1 := b1.c1
  have HM := Lib.hid (fun W h => make_calls l n (by omega) W h)
  have hms := mS_len l
  have hrt := make_rt l n
  have hmm := hrt.make
  have hpl := plain_length s
  have HI := Lib.hid (fun W h => insert_no (mS l) s (mA l n : Int) (by omega) (by omega) W h (by rw [hmm.1]; exact h6))
  rw [hmm.1, hmm.2] at HI
  have HPl := Lib.hid (fun W => plain_calls s (by omega) W)
  have hyr : Rt (mS l) (mA l n) := hrt
  have hyl := hyr.2.1
  have HZ := Lib.hid (fun W h => cutT_calls (mS l) (mA l n : Int) (mA l n : Int) to (by omega) W h)
  rw [hmm.1, hmm.2, hrt.2.2.back] at HZ
  have hzr := cutR_rt' hrt (mA l n : Int) to
  rw [hrt.2.2.back] at hzr
  obtain ⟨ig, il, ie⟩ := ins_back hrt to
  have hzl := hzr.2.1
  have HW := Lib.hid (fun W h => insert_ok (cutR (mS l) (mA l n) (mA l n) (backL (mS l) to)).1 (cutR (mS l) (mA l n) (mA l n) (backL (mS l) to)).2.2 ((cutR (mS l) (mA l n) (mA l n) (backL (mS l) to)).2.1 : Int) (by omega) (by omega) W h (by rw [hzr.make.1, ig.plain]; exact il))
  rw [hzr.make.1, hzr.make.2, ig.plain] at HW
  have Hws : Hid ((cutR (mS l) (mA l n) (mA l n) (backL (mS l) to)).2.1 = mA l n → insS (cutR (mS l) (mA l n) (mA l n) (backL (mS l) to)).1 (cutR (mS l) (mA l n) (mA l n) (backL (mS l) to)).2.1 (cutR (mS l) (mA l n) (mA l n) (backL (mS l) to)).2.2 = mS l) := Lib.hid fun e => by rw [e]; exact ie e
  have HCz := Lib.hid (fun W => rcut_rd (cutR (mS l) (mA l n) (mA l n) (backL (mS l) to)).1 (by omega) W)
  have HCm := Lib.hid (fun W => rcut_rd (mS l) (by omega) W)
  have HCg := Lib.hid (fun W => rcut_rd (cutR (mS l) (mA l n) (mA l n) (backL (mS l) to)).2.2 (by omega) W)
  have hlz := cutL_length (cutR (mS l) (mA l n) (mA l n) (backL (mS l) to)).1
  have hlm := cutL_length (mS l)
  have hlg := cutL_length (cutR (mS l) (mA l n) (mA l n) (backL (mS l) to)).2.2
  have hw10 : IntKind.i64.wrap (((cutL (mS l)).length : Int) - ((cutL (cutR (mS l) (mA l n) (mA l n) (backL (mS l) to)).2.2).length : Int)) = ((cutL (mS l)).length : Int) - ((cutL (cutR (mS l) (mA l n) (mA l n) (backL (mS l) to)).2.2).length : Int) := IntWalk.i64_in _ (by omega)
  have Hsp := Lib.hid hsp
  have K1 := Lib.hid k1
  clear HF hsp b0 b1 k1 hrt hmm hyr hzr ig il ie hyl hzl h6
  generalize insA (cutR (mS l) (mA l n) (mA l n) (backL (mS l) to)).1 (cutR (mS l) (mA l n) (mA l n) (backL (mS l) to)).2.1 (cutR (mS l) (mA l n) (mA l n) (backL (mS l) to)).2.2 = wa at *
  generalize insS (cutR (mS l) (mA l n) (mA l n) (backL (mS l) to)).1 (cutR (mS l) (mA l n) (mA l n) (backL (mS l) to)).2.1 (cutR (mS l) (mA l n) (mA l n) (backL (mS l) to)).2.2 = ws at *
  generalize (cutL (cutR (mS l) (mA l n) (mA l n) (backL (mS l) to)).1).length = nz at *
  generalize (cutL (cutR (mS l) (mA l n) (mA l n) (backL (mS l) to)).2.2).length = ng at *
  generalize (cutR (mS l) (mA l n) (mA l n) (backL (mS l) to)).1 = zs at *
  generalize (cutR (mS l) (mA l n) (mA l n) (backL (mS l) to)).2.1 = za at *
  generalize (cutR (mS l) (mA l n) (mA l n) (backL (mS l) to)).2.2 = zg at *
  generalize (cutL (mS l)).length = nm at *
  generalize plainL s = p at *
  generalize mA l n = a at *
  generalize mS l = m at *
  go_enter Tryd.func7, Tryd.ntmps7
  go_wp2_with fail
  refine HFew.out.mono ?_
  rintro e w0 ⟨rfl, rfl⟩
  go_wp2_with fail
  refine (HM.out _ (spans_below Hsp.out K1.out)).mono ?_
  rintro e wx ⟨rfl, hbx⟩
  have kx := K1.out.trans (hbx.mono K1.out.size)
  have x2 := Bx.new wx 25 (.string (bs m)) (.int .i64 (a : Int))
  have K2 := Lib.hid (kx.alloc kx.size (.cells #[.string (bs m), .int .i64 (a : Int)] 25))
  have e0 := x2.c0
  have e1 := x2.c1
  have X2 := Lib.hid x2
  clear hbx kx x2 c0 c1 d0 d1
  go_wp2_with fail
  refine (HI.out _ (spans_below Hsp.out K2.out)).mono ?_
  rintro e wy ⟨rfl, hby⟩
  have ky := K2.out.trans (hby.mono K2.out.size)
  have k5a := ky.alloc ky.size (.cells #[.string (bs m), .int .i64 (a : Int)] 25)
  have x5a := (X2.out.below hby).alloc (.cells #[.string (bs m), .int .i64 (a : Int)] 25)
  have y5a := Bx.new wy 25 (.string (bs m)) (.int .i64 (a : Int))
  have k5 := k5a.drew
  have x5 := x5a.drew
  have y5 := y5a.drew
  clear hby ky e0 e1 k5a x5a y5a
  go_wp2_with fail
  refine wp_region_held_drew (S := (fun w' => (w'.cell? ⟨wx.heap.size, 0, none⟩ = some (.string (bs m)) ∧ w'.cell? ⟨wx.heap.size, 1, none⟩ = some (.int .i64 (a : Int))) ∧ (w'.cell? ⟨wy.heap.size, 0, none⟩ = some (.string (bs m)) ∧ w'.cell? ⟨wy.heap.size, 1, none⟩ = some (.int .i64 (a : Int))))) (by kernel_rfl) ⟨⟨x5.c0, x5.c1⟩, ⟨y5.c0, y5.c1⟩⟩ (fun hHeld => ?_)
  refine wpAnyH_take (i := 0) (oi := ⟨some 34, _, _, _, _, _⟩) (v := ?_) rfl (by kernel_rfl) (by kernel_rfl) (by kernel_rfl) (fun _ _ _ h => h) (Or.inl ⟨by kernel_rfl, ?hy0⟩) (by assumption) ?_
  case hy0 => (intro w' hSw; (try dsimp only at hSw); go_simp; try with_reducible rfl)
  simp only [Act.put, List.setIfInBounds_toArray, List.set_cons_zero, List.set_cons_succ]
  refine wpAnyH_take (i := 1) (oi := ⟨some 35, _, _, _, _, _⟩) (v := ?_) rfl (by kernel_rfl) (by kernel_rfl) (by kernel_rfl) (fun _ _ _ h => h) (Or.inl ⟨by kernel_rfl, ?hy1⟩) (by assumption) ?_
  case hy1 => (intro w' hSw; (try dsimp only at hSw); go_simp; try with_reducible rfl)
  simp only [Act.put, List.setIfInBounds_toArray, List.set_cons_zero, List.set_cons_succ]
  refine wpAnyH_take (i := 2) (oi := ⟨some 36, _, _, _, _, _⟩) (v := ?_) rfl (by kernel_rfl) (by kernel_rfl) (by kernel_rfl) (fun _ _ _ h => h) (Or.inl ⟨by kernel_rfl, ?hy2⟩) (by assumption) ?_
  case hy2 => (intro w' hSw; (try dsimp only at hSw); go_simp; try with_reducible rfl)
  simp only [Act.put, List.setIfInBounds_toArray, List.set_cons_zero, List.set_cons_succ]
  refine wpAnyH_take (i := 3) (oi := ⟨some 37, _, _, _, _, _⟩) (v := undef) rfl (by kernel_rfl) (by kernel_rfl) (by kernel_rfl) (fun _ _ _ h => h) (Or.inr ⟨by kernel_rfl, rfl⟩) (by assumption) ?_
  simp only [Act.put, List.setIfInBounds_toArray, List.set_cons_zero, List.set_cons_succ]
  refine wpAnyH_take (i := 4) (oi := ⟨some 38, _, _, _, _, _⟩) (v := undef) rfl (by kernel_rfl) (by kernel_rfl) (by kernel_rfl) (fun _ _ _ h => h) (Or.inr ⟨by kernel_rfl, rfl⟩) (by assumption) ?_
  simp only [Act.put, List.setIfInBounds_toArray, List.set_cons_zero, List.set_cons_succ]
  refine wpAnyH_take (i := 5) (oi := ⟨some 39, _, _, _, _, _⟩) (v := undef) rfl (by kernel_rfl) (by kernel_rfl) (by kernel_rfl) (fun _ _ _ h => h) (Or.inr ⟨by kernel_rfl, rfl⟩) (by assumption) ?_
  simp only [Act.put, List.setIfInBounds_toArray, List.set_cons_zero, List.set_cons_succ]
  refine wpAnyH_take (i := 6) (oi := ⟨some 40, _, _, _, _, _⟩) (v := undef) rfl (by kernel_rfl) (by kernel_rfl) (by kernel_rfl) (fun _ _ _ h => h) (Or.inr ⟨by kernel_rfl, rfl⟩) (by assumption) ?_
  simp only [Act.put, List.setIfInBounds_toArray, List.set_cons_zero, List.set_cons_succ]
  refine wpAnyH_take (i := 7) (oi := ⟨some 41, _, _, _, _, _⟩) (v := undef) rfl (by kernel_rfl) (by kernel_rfl) (by kernel_rfl) (fun _ _ _ h => h) (Or.inr ⟨by kernel_rfl, rfl⟩) (by assumption) ?_
  simp only [Act.put, List.setIfInBounds_toArray, List.set_cons_zero, List.set_cons_succ]
  refine wpAnyH_take (i := 8) (oi := ⟨some 42, _, _, _, _, _⟩) (v := undef) rfl (by kernel_rfl) (by kernel_rfl) (by kernel_rfl) (fun _ _ _ h => h) (Or.inr ⟨by kernel_rfl, rfl⟩) (by assumption) ?_
  simp only [Act.put, List.setIfInBounds_toArray, List.set_cons_zero, List.set_cons_succ]
  refine wpAnyH_take (i := 9) (oi := ⟨some 43, _, _, _, _, _⟩) (v := undef) rfl (by kernel_rfl) (by kernel_rfl) (by kernel_rfl) (fun _ _ _ h => h) (Or.inr ⟨by kernel_rfl, rfl⟩) (by assumption) ?_
  simp only [Act.put, List.setIfInBounds_toArray, List.set_cons_zero, List.set_cons_succ]
  refine wpAnyH_take (i := 10) (oi := ⟨some 44, _, _, _, _, _⟩) (v := undef) rfl (by kernel_rfl) (by kernel_rfl) (by kernel_rfl) (fun _ _ _ h => h) (Or.inr ⟨by kernel_rfl, rfl⟩) (by assumption) ?_
  simp only [Act.put, List.setIfInBounds_toArray, List.set_cons_zero, List.set_cons_succ]
  refine wpAnyH_take (i := 11) (oi := ⟨some 45, _, _, _, _, _⟩) (v := undef) rfl (by kernel_rfl) (by kernel_rfl) (by kernel_rfl) (fun _ _ _ h => h) (Or.inr ⟨by kernel_rfl, rfl⟩) (by assumption) ?_
  simp only [Act.put, List.setIfInBounds_toArray, List.set_cons_zero, List.set_cons_succ]
  refine wpAnyH_take (i := 12) (oi := ⟨some 46, _, _, _, _, _⟩) (v := ?_) rfl (by kernel_rfl) (by kernel_rfl) (by kernel_rfl) (fun _ _ _ h => h) (Or.inl ⟨by kernel_rfl, ?hy12⟩) (by assumption) ?_
  case hy12 => (intro w' hSw; (try dsimp only at hSw); go_simp; try with_reducible rfl)
  simp only [Act.put, List.setIfInBounds_toArray, List.set_cons_zero, List.set_cons_succ]
  refine wpAnyH_take (i := 13) (oi := ⟨some 47, _, _, _, _, _⟩) (v := ?_) rfl (by kernel_rfl) (by kernel_rfl) (by kernel_rfl) (fun _ _ _ h => h) (Or.inl ⟨by kernel_rfl, ?hy13⟩) (by assumption) ?_
  case hy13 => (intro w' hSw; (try dsimp only at hSw); go_simp; try with_reducible rfl)
  simp only [Act.put, List.setIfInBounds_toArray, List.set_cons_zero, List.set_cons_succ]
  refine wpAnyH_take (i := 14) (oi := ⟨some 48, _, _, _, _, _⟩) (v := undef) rfl (by kernel_rfl) (by kernel_rfl) (by kernel_rfl) (fun _ _ _ h => h) (Or.inr ⟨by kernel_rfl, rfl⟩) (by assumption) ?_
  simp only [Act.put, List.setIfInBounds_toArray, List.set_cons_zero, List.set_cons_succ]
  refine wpAnyH_take (i := 15) (oi := ⟨some 49, _, _, _, _, _⟩) (v := undef) rfl (by kernel_rfl) (by kernel_rfl) (by kernel_rfl) (fun _ _ _ h => h) (Or.inr ⟨by kernel_rfl, rfl⟩) (by assumption) ?_
  simp only [Act.put, List.setIfInBounds_toArray, List.set_cons_zero, List.set_cons_succ]
  refine wpAnyH_take (i := 16) (oi := ⟨some 50, _, _, _, _, _⟩) (v := undef) rfl (by kernel_rfl) (by kernel_rfl) (by kernel_rfl) (fun _ _ _ h => h) (Or.inr ⟨by kernel_rfl, rfl⟩) (by assumption) ?_
  simp only [Act.put, List.setIfInBounds_toArray, List.set_cons_zero, List.set_cons_succ]
  refine wpAnyH_take (i := 17) (oi := ⟨some 51, _, _, _, _, _⟩) (v := undef) rfl (by kernel_rfl) (by kernel_rfl) (by kernel_rfl) (fun _ _ _ h => h) (Or.inr ⟨by kernel_rfl, rfl⟩) (by assumption) ?_
  simp only [Act.put, List.setIfInBounds_toArray, List.set_cons_zero, List.set_cons_succ]
  refine wpAnyH_take (i := 18) (oi := ⟨some 52, _, _, _, _, _⟩) (v := undef) rfl (by kernel_rfl) (by kernel_rfl) (by kernel_rfl) (fun _ _ _ h => h) (Or.inr ⟨by kernel_rfl, rfl⟩) (by assumption) ?_
  simp only [Act.put, List.setIfInBounds_toArray, List.set_cons_zero, List.set_cons_succ]
  refine wpAnyH_take (i := 19) (oi := ⟨some 53, _, _, _, _, _⟩) (v := undef) rfl (by kernel_rfl) (by kernel_rfl) (by kernel_rfl) (fun _ _ _ h => h) (Or.inr ⟨by kernel_rfl, rfl⟩) (by assumption) ?_
  simp only [Act.put, List.setIfInBounds_toArray, List.set_cons_zero, List.set_cons_succ]
  refine wpAnyH_take (i := 20) (oi := ⟨some 54, _, _, _, _, _⟩) (v := undef) rfl (by kernel_rfl) (by kernel_rfl) (by kernel_rfl) (fun _ _ _ h => h) (Or.inr ⟨by kernel_rfl, rfl⟩) (by assumption) ?_
  simp only [Act.put, List.setIfInBounds_toArray, List.set_cons_zero, List.set_cons_succ]
  refine wpAnyH_take (i := 21) (oi := ⟨some 55, _, _, _, _, _⟩) (v := undef) rfl (by kernel_rfl) (by kernel_rfl) (by kernel_rfl) (fun _ _ _ h => h) (Or.inr ⟨by kernel_rfl, rfl⟩) (by assumption) ?_
  simp only [Act.put, List.setIfInBounds_toArray, List.set_cons_zero, List.set_cons_succ]
  refine wpAnyH_take (i := 22) (oi := ⟨some 56, _, _, _, _, _⟩) (v := undef) rfl (by kernel_rfl) (by kernel_rfl) (by kernel_rfl) (fun _ _ _ h => h) (Or.inr ⟨by kernel_rfl, rfl⟩) (by assumption) ?_
  simp only [Act.put, List.setIfInBounds_toArray, List.set_cons_zero, List.set_cons_succ]
  refine wpAnyH_take (i := 23) (oi := ⟨some 57, _, _, _, _, _⟩) (v := undef) rfl (by kernel_rfl) (by kernel_rfl) (by kernel_rfl) (fun _ _ _ h => h) (Or.inr ⟨by kernel_rfl, rfl⟩) (by assumption) ?_
  simp only [Act.put, List.setIfInBounds_toArray, List.set_cons_zero, List.set_cons_succ]
  refine wpAnyH_take (i := 24) (oi := ⟨some 58, _, _, _, _, _⟩) (v := undef) rfl (by kernel_rfl) (by kernel_rfl) (by kernel_rfl) (fun _ _ _ h => h) (Or.inr ⟨by kernel_rfl, rfl⟩) (by assumption) ?_
  simp only [Act.put, List.setIfInBounds_toArray, List.set_cons_zero, List.set_cons_succ]
  refine wpAnyH_take (i := 25) (oi := ⟨some 59, _, _, _, _, _⟩) (v := undef) rfl (by kernel_rfl) (by kernel_rfl) (by kernel_rfl) (fun _ _ _ h => h) (Or.inr ⟨by kernel_rfl, rfl⟩) (by assumption) ?_
  simp only [Act.put, List.setIfInBounds_toArray, List.set_cons_zero, List.set_cons_succ]
  refine wpAnyH_take (i := 26) (oi := ⟨some 60, _, _, _, _, _⟩) (v := undef) rfl (by kernel_rfl) (by kernel_rfl) (by kernel_rfl) (fun _ _ _ h => h) (Or.inr ⟨by kernel_rfl, rfl⟩) (by assumption) ?_
  simp only [Act.put, List.setIfInBounds_toArray, List.set_cons_zero, List.set_cons_succ]
  refine wpAnyH_take (i := 27) (oi := ⟨some 61, _, _, _, _, _⟩) (v := undef) rfl (by kernel_rfl) (by kernel_rfl) (by kernel_rfl) (fun _ _ _ h => h) (Or.inr ⟨by kernel_rfl, rfl⟩) (by assumption) ?_
  simp only [Act.put, List.setIfInBounds_toArray, List.set_cons_zero, List.set_cons_succ]
  refine wpAnyH_take (i := 28) (oi := ⟨some 62, _, _, _, _, _⟩) (v := ?_) rfl (by kernel_rfl) (by kernel_rfl) (by kernel_rfl) (fun _ _ _ h => h) (Or.inl ⟨by kernel_rfl, ?hy28⟩) (by assumption) ?_
  case hy28 => (intro w' hSw; (try dsimp only at hSw); go_simp; try with_reducible rfl)
  simp only [Act.put, List.setIfInBounds_toArray, List.set_cons_zero, List.set_cons_succ]
  refine wpAnyH_done (by kernel_rfl) ?_ _
  have KX0 := Lib.hid k5
  have XX0 := Lib.hid x5
  have YY0 := Lib.hid y5
  have xx0 := x5.c0
  have xx1 := x5.c1
  have yy0 := y5.c0
  have yy1 := y5.c1
  clear hHeld
  have KX := KX0
  have XX := XX0
  go_wp2_with fail
  refine (HZ.out _ (spans_below Hsp.out KX.out)).mono ?_
  rintro e wz ⟨rfl, hbz⟩
  have k50 := KX.out.trans (hbz.mono KX.out.size)
  have k51 := (k50.alloc k50.size (.cells #[.string (bs zs), .int .i64 (za : Int)] 25)).drew
  have x51 := ((XX.out.below hbz).alloc (.cells #[.string (bs zs), .int .i64 (za : Int)] 25)).drew
  have z51 := (Bx.new wz 25 (.string (bs zs)) (.int .i64 (za : Int))).drew
  clear hbz k50
  go_wp2_with fail
  refine wp_region_held_drew (S := (fun w' => (w'.cell? ⟨wx.heap.size, 0, none⟩ = some (.string (bs m)) ∧ w'.cell? ⟨wx.heap.size, 1, none⟩ = some (.int .i64 (a : Int))) ∧ (w'.cell? ⟨wz.heap.size, 0, none⟩ = some (.string (bs zs)) ∧ w'.cell? ⟨wz.heap.size, 1, none⟩ = some (.int .i64 (za : Int))))) (by kernel_rfl) ⟨⟨x51.c0, x51.c1⟩, ⟨z51.c0, z51.c1⟩⟩ (fun hHeld => ?_)
  refine wpAnyH_take (i := 0) (oi := ⟨some 89, _, _, _, _, _⟩) (v := ?_) rfl (by kernel_rfl) (by kernel_rfl) (by kernel_rfl) (fun _ _ _ h => h) (Or.inl ⟨by kernel_rfl, ?hy0⟩) (by assumption) ?_
  case hy0 => (intro w' hSw; (try dsimp only at hSw); go_simp; try with_reducible rfl)
  simp only [Act.put, List.setIfInBounds_toArray, List.set_cons_zero, List.set_cons_succ]
  refine wpAnyH_take (i := 1) (oi := ⟨some 90, _, _, _, _, _⟩) (v := ?_) rfl (by kernel_rfl) (by kernel_rfl) (by kernel_rfl) (fun _ _ _ h => h) (Or.inl ⟨by kernel_rfl, ?hy1⟩) (by assumption) ?_
  case hy1 => (intro w' hSw; (try dsimp only at hSw); go_simp; try with_reducible rfl)
  simp only [Act.put, List.setIfInBounds_toArray, List.set_cons_zero, List.set_cons_succ]
  refine wpAnyH_take (i := 4) (oi := ⟨some 93, _, _, _, _, _⟩) (v := ?_) rfl (by kernel_rfl) (by kernel_rfl) (by kernel_rfl) (fun _ _ _ h => h) (Or.inl ⟨by kernel_rfl, ?hy4⟩) (by assumption) ?_
  case hy4 => (intro w' hSw; (try dsimp only at hSw); go_simp; try with_reducible rfl)
  simp only [Act.put, List.setIfInBounds_toArray, List.set_cons_zero, List.set_cons_succ]
  refine wpAnyH_take (i := 5) (oi := ⟨some 94, _, _, _, _, _⟩) (v := ?_) rfl (by kernel_rfl) (by kernel_rfl) (by kernel_rfl) (fun _ _ _ h => h) (Or.inl ⟨by kernel_rfl, ?hy5⟩) (by assumption) ?_
  case hy5 => (intro w' hSw; (try dsimp only at hSw); go_simp; try with_reducible rfl)
  simp only [Act.put, List.setIfInBounds_toArray, List.set_cons_zero, List.set_cons_succ]
  refine wpAnyH_take (i := 8) (oi := ⟨some 97, _, _, _, _, _⟩) (v := ?_) rfl (by kernel_rfl) (by kernel_rfl) (by kernel_rfl) (fun _ _ _ h => h) (Or.inl ⟨by kernel_rfl, ?hy8⟩) (by assumption) ?_
  case hy8 => (intro w' hSw; (try dsimp only at hSw); go_simp; try with_reducible rfl)
  simp only [Act.put, List.setIfInBounds_toArray, List.set_cons_zero, List.set_cons_succ]
  refine wpAnyH_ready (rs := [2]) (by kernel_rfl) (by simp) ?_
  refine AllReadyH.cons (o := ⟨some 91, _, _, _, _, _⟩) rfl (fun K hK => ?_) AllReadyH.nil
  (rw [if_pos (by kernel_rfl)])
  go_simp
  (refine (HCz.out _).mono ?_; rintro e w52 ⟨A52, c52, rfl, _, hb52⟩; have k52 := k51.trans (hb52.mono k51.size); have x52 := x51.below hb52; have z52 := z51.below hb52)
  refine hK.out _ _ ⟨⟨x52.c0, x52.c1⟩, ⟨z52.c0, z52.c1⟩⟩ (fun hHeld => ?_)
  clear hK K
  refine wpAnyH_take (i := 3) (oi := ⟨some 92, _, _, _, _, _⟩) (v := ?_) rfl (by kernel_rfl) (by kernel_rfl) (by kernel_rfl) (fun _ _ _ h => h) (Or.inl ⟨by kernel_rfl, ?hy3⟩) (by assumption) ?_
  case hy3 => (intro w' hSw; (try dsimp only at hSw); go_simp; try with_reducible rfl)
  simp only [Act.put, List.setIfInBounds_toArray, List.set_cons_zero, List.set_cons_succ]
  refine wpAnyH_ready (rs := [6]) (by kernel_rfl) (by simp) ?_
  refine AllReadyH.cons (o := ⟨some 95, _, _, _, _, _⟩) rfl (fun K hK => ?_) AllReadyH.nil
  (rw [if_pos (by kernel_rfl)])
  go_simp
  (refine (HCm.out _).mono ?_; rintro e w53 ⟨A53, c53, rfl, _, hb53⟩; have k53 := k52.trans (hb53.mono k52.size); have x53 := x52.below hb53; have z53 := z52.below hb53)
  refine hK.out _ _ ⟨⟨x53.c0, x53.c1⟩, ⟨z53.c0, z53.c1⟩⟩ (fun hHeld => ?_)
  clear hK K
  refine wpAnyH_take (i := 7) (oi := ⟨some 96, _, _, _, _, _⟩) (v := ?_) rfl (by kernel_rfl) (by kernel_rfl) (by kernel_rfl) (fun _ _ _ h => h) (Or.inl ⟨by kernel_rfl, ?hy7⟩) (by assumption) ?_
  case hy7 => (intro w' hSw; (try dsimp only at hSw); go_simp; try with_reducible rfl)
  simp only [Act.put, List.setIfInBounds_toArray, List.set_cons_zero, List.set_cons_succ]
  refine wpAnyH_ready (rs := [9]) (by kernel_rfl) (by simp) ?_
  refine AllReadyH.cons (o := ⟨some 98, _, _, _, _, _⟩) rfl (fun K hK => ?_) AllReadyH.nil
  (rw [if_pos (by kernel_rfl)])
  go_simp
  (refine (HCg.out _).mono ?_; rintro e w54 ⟨A54, c54, rfl, _, hb54⟩; have k54 := k53.trans (hb54.mono k53.size); have x54 := x53.below hb54; have z54 := z53.below hb54)
  refine hK.out _ _ ⟨⟨x54.c0, x54.c1⟩, ⟨z54.c0, z54.c1⟩⟩ (fun hHeld => ?_)
  clear hK K
  refine wpAnyH_take (i := 10) (oi := ⟨some 99, _, _, _, _, _⟩) (v := ?_) rfl (by kernel_rfl) (by kernel_rfl) (by kernel_rfl) (fun _ _ _ h => h) (Or.inl ⟨by kernel_rfl, ?hy10⟩) (by assumption) ?_
  case hy10 => (intro w' hSw; (try dsimp only at hSw); go_simp; try with_reducible rfl)
  simp only [Act.put, List.setIfInBounds_toArray, List.set_cons_zero, List.set_cons_succ]
  refine wpAnyH_take (i := 11) (oi := ⟨some 100, _, _, _, _, _⟩) (v := ?_) rfl (by kernel_rfl) (by kernel_rfl) (by kernel_rfl) (fun _ _ _ h => h) (Or.inl ⟨by kernel_rfl, ?hy11⟩) (by assumption) ?_
  case hy11 => (intro w' hSw; (try dsimp only at hSw); go_simp; try with_reducible rfl)
  simp only [Act.put, List.setIfInBounds_toArray, List.set_cons_zero, List.set_cons_succ]
  refine wpAnyH_take (i := 12) (oi := ⟨some 101, _, _, _, _, _⟩) (v := ?_) rfl (by kernel_rfl) (by kernel_rfl) (by kernel_rfl) (fun _ _ _ h => h) (Or.inl ⟨by kernel_rfl, ?hy12⟩) (by assumption) ?_
  case hy12 => (intro w' hSw; (try dsimp only at hSw); go_simp; try with_reducible rfl)
  simp only [Act.put, List.setIfInBounds_toArray, List.set_cons_zero, List.set_cons_succ]
  refine wpAnyH_done (by kernel_rfl) ?_ _
  have KQ := Lib.hid k54
  have XQ := Lib.hid x54
  have ZQ := Lib.hid z54
  clear hHeld
  cases hqq : ((nz : Int) != (nm : Int) - (ng : Int)) with
  | true =>
    go_wp2_with fail
    refine (talive_calls _ (spans_below Hsp.out KQ.out)).mono ?_
    rintro e wA ⟨rfl, hbA⟩
    have kA := KQ.out.trans (hbA.mono KQ.out.size)
    go_wp2
    go_ret
    exact ⟨rfl, kA⟩
  | false =>
    have zq0 := ZQ.out.c0
    have zq1 := ZQ.out.c1
    go_wp2_with fail
    refine (HW.out _ (spans_below Hsp.out KQ.out)).mono ?_
    rintro e wv ⟨rfl, hbv⟩
    have kv := KQ.out.trans (hbv.mono KQ.out.size)
    have KV := Lib.hid (kv.alloc kv.size (.cells #[.string (bs ws), .int .i64 (wa : Int)] 25))
    have XV := Lib.hid ((XQ.out.below hbv).alloc (.cells #[.string (bs ws), .int .i64 (wa : Int)] 25))
    have ZV := Lib.hid ((ZQ.out.below hbv).alloc (.cells #[.string (bs ws), .int .i64 (wa : Int)] 25))
    have VV := Lib.hid (Bx.new wv 25 (.string (bs ws)) (.int .i64 (wa : Int)))
    clear hbv kv zq0 zq1
    go_wp2_with fail
    refine (talive_calls _ (spans_below Hsp.out KV.out)).mono ?_
    rintro e wA ⟨rfl, hbA⟩
    have KA := Lib.hid (KV.out.trans (hbA.mono KV.out.size))
    have xa := XV.out.below hbA
    have za' := ZV.out.below hbA
    have va := VV.out.below hbA
    have xa0 := xa.c0
    have xa1 := xa.c1
    have zb0 := za'.c0
    have zb1 := za'.c1
    have va0 := va.c0
    have va1 := va.c1
    clear hbA xa za' va
    by_cases hza : za = a
    · have hne : ((za : Int) != (a : Int)) = false := by rw [hza]; simp
      have hws := Hws.out hza
      subst hws
      go_wp2
      go_ret
      exact ⟨rfl, KA.out⟩
    · have hne : ((za : Int) != (a : Int)) = true := by rw [bne_iff_ne]; omega
      go_wp2
      go_ret
      exact ⟨rfl, KA.out⟩

set_option maxHeartbeats 8000000 in
theorem lback_a (l s : List UInt8) (n to : Int) (w : World) (hb : l.length + s.length ≤ 1500) (h6 : (mS l).length + (plainL s).length ≤ 600) (hA : ¬ insA (mS l) (mA l n) (plainL s) = mA l n + (plainL s).length) (hsp : Spans w) :
    Calls Tryd.prog 7 #[.agg #[.string (bs l), .int .i64 n], .string (bs s), .int .i64 to] w fun e w' => e = .returned (.bool true) ∧ Below w.heap.size w w' := by
  have hsz := bs_size l
  have hsz2 := bs_size s
  have HF := few_two (bs l) (bs s) (w.alloc (.cells #[.string (bs l), .int .i64 n] 27)) (by omega)
  rw [decide_eq_true (show (bs l).size + (bs s).size ≤ 1500 by omega), World.size_alloc] at HF
  have HFew := Lib.hid HF
  have b0 := (Bx.new w 27 (.string (bs l)) (.int .i64 n))
  have c0 := b0.c0
  have c1 := b0.c1
  have b1 := b0.alloc (.cells #[.string (bs l), .string (bs s)] 9)
  have k1 : Below w.heap.size w ((w.alloc (.cells #[.string (bs l), .int .i64 n] 27)).alloc (.cells #[.string (bs l), .string (bs s)] 9)) := ((Below.refl _ w).alloc (Nat.le_refl _) _).alloc (by simp) _
  have d0 := b1.c0
  have d1 := b1.c1
  have HM := Lib.hid (fun W h => make_calls l n (by omega) W h)
  have hms := mS_len l
  have hrt := make_rt l n
  have hmm := hrt.make
  have hpl := plain_length s
  have HI := Lib.hid (fun W h => insert_ok (mS l) s (mA l n : Int) (by omega) (by omega) W h (by rw [hmm.1]; exact h6))
  rw [hmm.1, hmm.2] at HI
  have HPl := Lib.hid (fun W => plain_calls s (by omega) W)
  have hyr : Rt (insS (mS l) (mA l n) (plainL s)) (insA (mS l) (mA l n) (plainL s)) := ins_rt hrt (plain_P s) h6
  have hyl := hyr.2.1
  have HZ := Lib.hid (fun W h => cutT_calls (mS l) (mA l n : Int) (mA l n : Int) to (by omega) W h)
  rw [hmm.1, hmm.2, hrt.2.2.back] at HZ
  have hzr := cutR_rt' hrt (mA l n : Int) to
  rw [hrt.2.2.back] at hzr
  obtain ⟨ig, il, ie⟩ := ins_back hrt to
  have hzl := hzr.2.1
  have HW := Lib.hid (fun W h => insert_ok (cutR (mS l) (mA l n) (mA l n) (backL (mS l) to)).1 (cutR (mS l) (mA l n) (mA l n) (backL (mS l) to)).2.2 ((cutR (mS l) (mA l n) (mA l n) (backL (mS l) to)).2.1 : Int) (by omega) (by omega) W h (by rw [hzr.make.1, ig.plain]; exact il))
  rw [hzr.make.1, hzr.make.2, ig.plain] at HW
  have Hws : Hid ((cutR (mS l) (mA l n) (mA l n) (backL (mS l) to)).2.1 = mA l n → insS (cutR (mS l) (mA l n) (mA l n) (backL (mS l) to)).1 (cutR (mS l) (mA l n) (mA l n) (backL (mS l) to)).2.1 (cutR (mS l) (mA l n) (mA l n) (backL (mS l) to)).2.2 = mS l) := Lib.hid fun e => by rw [e]; exact ie e
  have HCz := Lib.hid (fun W => rcut_rd (cutR (mS l) (mA l n) (mA l n) (backL (mS l) to)).1 (by omega) W)
  have HCm := Lib.hid (fun W => rcut_rd (mS l) (by omega) W)
  have HCg := Lib.hid (fun W => rcut_rd (cutR (mS l) (mA l n) (mA l n) (backL (mS l) to)).2.2 (by omega) W)
  have hlz := cutL_length (cutR (mS l) (mA l n) (mA l n) (backL (mS l) to)).1
  have hlm := cutL_length (mS l)
  have hlg := cutL_length (cutR (mS l) (mA l n) (mA l n) (backL (mS l) to)).2.2
  have hw10 : IntKind.i64.wrap (((cutL (mS l)).length : Int) - ((cutL (cutR (mS l) (mA l n) (mA l n) (backL (mS l) to)).2.2).length : Int)) = ((cutL (mS l)).length : Int) - ((cutL (cutR (mS l) (mA l n) (mA l n) (backL (mS l) to)).2.2).length : Int) := IntWalk.i64_in _ (by omega)
  have hw5 : IntKind.i64.wrap ((mA l n : Int) + ((plainL s).length : Int)) = (mA l n : Int) + ((plainL s).length : Int) := IntWalk.i64_in _ (by have := hrt.2.2.le; omega)
  have hae : (((insA (mS l) (mA l n) (plainL s)) : Int) == (mA l n : Int) + ((plainL s).length : Int)) = false := beq_eq_false_iff_ne.2 (by omega)
  have hszp := bs_size (plainL s)
  have Hsp := Lib.hid hsp
  have K1 := Lib.hid k1
  clear HF hsp b0 b1 k1 hrt hmm hyr hzr ig il ie hyl hzl h6 hA
  generalize insA (cutR (mS l) (mA l n) (mA l n) (backL (mS l) to)).1 (cutR (mS l) (mA l n) (mA l n) (backL (mS l) to)).2.1 (cutR (mS l) (mA l n) (mA l n) (backL (mS l) to)).2.2 = wa at *
  generalize insS (cutR (mS l) (mA l n) (mA l n) (backL (mS l) to)).1 (cutR (mS l) (mA l n) (mA l n) (backL (mS l) to)).2.1 (cutR (mS l) (mA l n) (mA l n) (backL (mS l) to)).2.2 = ws at *
  generalize (cutL (cutR (mS l) (mA l n) (mA l n) (backL (mS l) to)).1).length = nz at *
  generalize (cutL (cutR (mS l) (mA l n) (mA l n) (backL (mS l) to)).2.2).length = ng at *
  generalize (cutR (mS l) (mA l n) (mA l n) (backL (mS l) to)).1 = zs at *
  generalize (cutR (mS l) (mA l n) (mA l n) (backL (mS l) to)).2.1 = za at *
  generalize (cutR (mS l) (mA l n) (mA l n) (backL (mS l) to)).2.2 = zg at *
  generalize (cutL (mS l)).length = nm at *
  generalize (insA (mS l) (mA l n) (plainL s)) = ya at *
  generalize (insS (mS l) (mA l n) (plainL s)) = ys at *
  generalize plainL s = p at *
  generalize mA l n = a at *
  generalize mS l = m at *
  go_enter Tryd.func7, Tryd.ntmps7
  go_wp2_with fail
  refine HFew.out.mono ?_
  rintro e w0 ⟨rfl, rfl⟩
  go_wp2_with fail
  refine (HM.out _ (spans_below Hsp.out K1.out)).mono ?_
  rintro e wx ⟨rfl, hbx⟩
  have kx := K1.out.trans (hbx.mono K1.out.size)
  have x2 := Bx.new wx 25 (.string (bs m)) (.int .i64 (a : Int))
  have K2 := Lib.hid (kx.alloc kx.size (.cells #[.string (bs m), .int .i64 (a : Int)] 25))
  have e0 := x2.c0
  have e1 := x2.c1
  have X2 := Lib.hid x2
  clear hbx kx x2 c0 c1 d0 d1
  go_wp2_with fail
  refine (HI.out _ (spans_below Hsp.out K2.out)).mono ?_
  rintro e wy ⟨rfl, hby⟩
  have ky := K2.out.trans (hby.mono K2.out.size)
  have k5a := ky.alloc ky.size (.cells #[.string (bs ys), .int .i64 (ya : Int)] 25)
  have x5a := (X2.out.below hby).alloc (.cells #[.string (bs ys), .int .i64 (ya : Int)] 25)
  have y5a := Bx.new wy 25 (.string (bs ys)) (.int .i64 (ya : Int))
  have k5 := k5a.drew
  have x5 := x5a.drew
  have y5 := y5a.drew
  clear hby ky e0 e1 k5a x5a y5a
  go_wp2_with fail
  refine wp_region_held_drew (S := (fun w' => (w'.cell? ⟨wx.heap.size, 0, none⟩ = some (.string (bs m)) ∧ w'.cell? ⟨wx.heap.size, 1, none⟩ = some (.int .i64 (a : Int))) ∧ (w'.cell? ⟨wy.heap.size, 0, none⟩ = some (.string (bs ys)) ∧ w'.cell? ⟨wy.heap.size, 1, none⟩ = some (.int .i64 (ya : Int))))) (by kernel_rfl) ⟨⟨x5.c0, x5.c1⟩, ⟨y5.c0, y5.c1⟩⟩ (fun hHeld => ?_)
  refine wpAnyH_take (i := 0) (oi := ⟨some 34, _, _, _, _, _⟩) (v := ?_) rfl (by kernel_rfl) (by kernel_rfl) (by kernel_rfl) (fun _ _ _ h => h) (Or.inl ⟨by kernel_rfl, ?hy0⟩) (by assumption) ?_
  case hy0 => (intro w' hSw; (try dsimp only at hSw); go_simp; try with_reducible rfl)
  simp only [Act.put, List.setIfInBounds_toArray, List.set_cons_zero, List.set_cons_succ]
  refine wpAnyH_take (i := 1) (oi := ⟨some 35, _, _, _, _, _⟩) (v := ?_) rfl (by kernel_rfl) (by kernel_rfl) (by kernel_rfl) (fun _ _ _ h => h) (Or.inl ⟨by kernel_rfl, ?hy1⟩) (by assumption) ?_
  case hy1 => (intro w' hSw; (try dsimp only at hSw); go_simp; try with_reducible rfl)
  simp only [Act.put, List.setIfInBounds_toArray, List.set_cons_zero, List.set_cons_succ]
  refine wpAnyH_take (i := 2) (oi := ⟨some 36, _, _, _, _, _⟩) (v := ?_) rfl (by kernel_rfl) (by kernel_rfl) (by kernel_rfl) (fun _ _ _ h => h) (Or.inl ⟨by kernel_rfl, ?hy2⟩) (by assumption) ?_
  case hy2 => (intro w' hSw; (try dsimp only at hSw); go_simp; try with_reducible rfl)
  simp only [Act.put, List.setIfInBounds_toArray, List.set_cons_zero, List.set_cons_succ]
  refine wpAnyH_take (i := 3) (oi := ⟨some 37, _, _, _, _, _⟩) (v := ?_) rfl (by kernel_rfl) (by kernel_rfl) (by kernel_rfl) (fun _ _ _ h => h) (Or.inl ⟨by kernel_rfl, ?hy3⟩) (by assumption) ?_
  case hy3 => (intro w' hSw; (try dsimp only at hSw); go_simp; try with_reducible rfl)
  simp only [Act.put, List.setIfInBounds_toArray, List.set_cons_zero, List.set_cons_succ]
  refine wpAnyH_take (i := 4) (oi := ⟨some 38, _, _, _, _, _⟩) (v := ?_) rfl (by kernel_rfl) (by kernel_rfl) (by kernel_rfl) (fun _ _ _ h => h) (Or.inl ⟨by kernel_rfl, ?hy4⟩) (by assumption) ?_
  case hy4 => (intro w' hSw; (try dsimp only at hSw); go_simp; try with_reducible rfl)
  simp only [Act.put, List.setIfInBounds_toArray, List.set_cons_zero, List.set_cons_succ]
  refine wpAnyH_take (i := 5) (oi := ⟨some 39, _, _, _, _, _⟩) (v := ?_) rfl (by kernel_rfl) (by kernel_rfl) (by kernel_rfl) (fun _ _ _ h => h) (Or.inl ⟨by kernel_rfl, ?hy5⟩) (by assumption) ?_
  case hy5 => (intro w' hSw; (try dsimp only at hSw); go_simp; try with_reducible rfl)
  simp only [Act.put, List.setIfInBounds_toArray, List.set_cons_zero, List.set_cons_succ]
  refine wpAnyH_take (i := 6) (oi := ⟨some 40, _, _, _, _, _⟩) (v := ?_) rfl (by kernel_rfl) (by kernel_rfl) (by kernel_rfl) (fun _ _ _ h => h) (Or.inl ⟨by kernel_rfl, ?hy6⟩) (by assumption) ?_
  case hy6 => (intro w' hSw; (try dsimp only at hSw); go_simp; try with_reducible rfl)
  simp only [Act.put, List.setIfInBounds_toArray, List.set_cons_zero, List.set_cons_succ]
  refine wpAnyH_take (i := 7) (oi := ⟨some 41, _, _, _, _, _⟩) (v := ?_) rfl (by kernel_rfl) (by kernel_rfl) (by kernel_rfl) (fun _ _ _ h => h) (Or.inl ⟨by kernel_rfl, ?hy7⟩) (by assumption) ?_
  case hy7 => (intro w' hSw; (try dsimp only at hSw); go_simp; try with_reducible rfl)
  simp only [Act.put, List.setIfInBounds_toArray, List.set_cons_zero, List.set_cons_succ]
  refine wpAnyH_ready (rs := [8]) (by kernel_rfl) (by simp) ?_
  refine AllReadyH.cons (o := ⟨some 42, _, _, _, _, _⟩) rfl (fun K hK => ?_) AllReadyH.nil
  (rw [if_pos (by kernel_rfl)])
  go_simp
  (refine (HPl.out _).mono ?_; rintro e w6 ⟨rfl, hb6⟩; have k6 := k5.trans (hb6.mono k5.size); have x6 := x5.below hb6; have y6 := y5.below hb6)
  refine hK.out _ _ ⟨⟨x6.c0, x6.c1⟩, ⟨y6.c0, y6.c1⟩⟩ (fun hHeld => ?_)
  clear hK K
  refine wpAnyH_take (i := 9) (oi := ⟨some 43, _, _, _, _, _⟩) (v := ?_) rfl (by kernel_rfl) (by kernel_rfl) (by kernel_rfl) (fun _ _ _ h => h) (Or.inl ⟨by kernel_rfl, ?hy9⟩) (by assumption) ?_
  case hy9 => (intro w' hSw; (try dsimp only at hSw); go_simp; try with_reducible rfl)
  simp only [Act.put, List.setIfInBounds_toArray, List.set_cons_zero, List.set_cons_succ]
  refine wpAnyH_take (i := 10) (oi := ⟨some 44, _, _, _, _, _⟩) (v := ?_) rfl (by kernel_rfl) (by kernel_rfl) (by kernel_rfl) (fun _ _ _ h => h) (Or.inl ⟨by kernel_rfl, ?hy10⟩) (by assumption) ?_
  case hy10 => (intro w' hSw; (try dsimp only at hSw); go_simp; try with_reducible rfl)
  simp only [Act.put, List.setIfInBounds_toArray, List.set_cons_zero, List.set_cons_succ]
  refine wpAnyH_take (i := 11) (oi := ⟨some 45, _, _, _, _, _⟩) (v := ?_) rfl (by kernel_rfl) (by kernel_rfl) (by kernel_rfl) (fun _ _ _ h => h) (Or.inl ⟨by kernel_rfl, ?hy11⟩) (by assumption) ?_
  case hy11 => (intro w' hSw; (try dsimp only at hSw); go_simp; try with_reducible rfl)
  simp only [Act.put, List.setIfInBounds_toArray, List.set_cons_zero, List.set_cons_succ]
  refine wpAnyH_take (i := 12) (oi := ⟨some 46, _, _, _, _, _⟩) (v := ?_) rfl (by kernel_rfl) (by kernel_rfl) (by kernel_rfl) (fun _ _ _ h => h) (Or.inl ⟨by kernel_rfl, ?hy12⟩) (by assumption) ?_
  case hy12 => (intro w' hSw; (try dsimp only at hSw); go_simp; try with_reducible rfl)
  simp only [Act.put, List.setIfInBounds_toArray, List.set_cons_zero, List.set_cons_succ]
  refine wpAnyH_take (i := 13) (oi := ⟨some 47, _, _, _, _, _⟩) (v := ?_) rfl (by kernel_rfl) (by kernel_rfl) (by kernel_rfl) (fun _ _ _ h => h) (Or.inl ⟨by kernel_rfl, ?hy13⟩) (by assumption) ?_
  case hy13 => (intro w' hSw; (try dsimp only at hSw); go_simp; try with_reducible rfl)
  simp only [Act.put, List.setIfInBounds_toArray, List.set_cons_zero, List.set_cons_succ]
  refine wpAnyH_take (i := 14) (oi := ⟨some 48, _, _, _, _, _⟩) (v := undef) rfl (by kernel_rfl) (by kernel_rfl) (by kernel_rfl) (fun _ _ _ h => h) (Or.inr ⟨by kernel_rfl, rfl⟩) (by assumption) ?_
  simp only [Act.put, List.setIfInBounds_toArray, List.set_cons_zero, List.set_cons_succ]
  refine wpAnyH_take (i := 15) (oi := ⟨some 49, _, _, _, _, _⟩) (v := undef) rfl (by kernel_rfl) (by kernel_rfl) (by kernel_rfl) (fun _ _ _ h => h) (Or.inr ⟨by kernel_rfl, rfl⟩) (by assumption) ?_
  simp only [Act.put, List.setIfInBounds_toArray, List.set_cons_zero, List.set_cons_succ]
  refine wpAnyH_take (i := 16) (oi := ⟨some 50, _, _, _, _, _⟩) (v := undef) rfl (by kernel_rfl) (by kernel_rfl) (by kernel_rfl) (fun _ _ _ h => h) (Or.inr ⟨by kernel_rfl, rfl⟩) (by assumption) ?_
  simp only [Act.put, List.setIfInBounds_toArray, List.set_cons_zero, List.set_cons_succ]
  refine wpAnyH_take (i := 17) (oi := ⟨some 51, _, _, _, _, _⟩) (v := undef) rfl (by kernel_rfl) (by kernel_rfl) (by kernel_rfl) (fun _ _ _ h => h) (Or.inr ⟨by kernel_rfl, rfl⟩) (by assumption) ?_
  simp only [Act.put, List.setIfInBounds_toArray, List.set_cons_zero, List.set_cons_succ]
  refine wpAnyH_take (i := 18) (oi := ⟨some 52, _, _, _, _, _⟩) (v := undef) rfl (by kernel_rfl) (by kernel_rfl) (by kernel_rfl) (fun _ _ _ h => h) (Or.inr ⟨by kernel_rfl, rfl⟩) (by assumption) ?_
  simp only [Act.put, List.setIfInBounds_toArray, List.set_cons_zero, List.set_cons_succ]
  refine wpAnyH_take (i := 19) (oi := ⟨some 53, _, _, _, _, _⟩) (v := undef) rfl (by kernel_rfl) (by kernel_rfl) (by kernel_rfl) (fun _ _ _ h => h) (Or.inr ⟨by kernel_rfl, rfl⟩) (by assumption) ?_
  simp only [Act.put, List.setIfInBounds_toArray, List.set_cons_zero, List.set_cons_succ]
  refine wpAnyH_take (i := 20) (oi := ⟨some 54, _, _, _, _, _⟩) (v := undef) rfl (by kernel_rfl) (by kernel_rfl) (by kernel_rfl) (fun _ _ _ h => h) (Or.inr ⟨by kernel_rfl, rfl⟩) (by assumption) ?_
  simp only [Act.put, List.setIfInBounds_toArray, List.set_cons_zero, List.set_cons_succ]
  refine wpAnyH_take (i := 21) (oi := ⟨some 55, _, _, _, _, _⟩) (v := undef) rfl (by kernel_rfl) (by kernel_rfl) (by kernel_rfl) (fun _ _ _ h => h) (Or.inr ⟨by kernel_rfl, rfl⟩) (by assumption) ?_
  simp only [Act.put, List.setIfInBounds_toArray, List.set_cons_zero, List.set_cons_succ]
  refine wpAnyH_take (i := 22) (oi := ⟨some 56, _, _, _, _, _⟩) (v := undef) rfl (by kernel_rfl) (by kernel_rfl) (by kernel_rfl) (fun _ _ _ h => h) (Or.inr ⟨by kernel_rfl, rfl⟩) (by assumption) ?_
  simp only [Act.put, List.setIfInBounds_toArray, List.set_cons_zero, List.set_cons_succ]
  refine wpAnyH_take (i := 23) (oi := ⟨some 57, _, _, _, _, _⟩) (v := undef) rfl (by kernel_rfl) (by kernel_rfl) (by kernel_rfl) (fun _ _ _ h => h) (Or.inr ⟨by kernel_rfl, rfl⟩) (by assumption) ?_
  simp only [Act.put, List.setIfInBounds_toArray, List.set_cons_zero, List.set_cons_succ]
  refine wpAnyH_take (i := 24) (oi := ⟨some 58, _, _, _, _, _⟩) (v := undef) rfl (by kernel_rfl) (by kernel_rfl) (by kernel_rfl) (fun _ _ _ h => h) (Or.inr ⟨by kernel_rfl, rfl⟩) (by assumption) ?_
  simp only [Act.put, List.setIfInBounds_toArray, List.set_cons_zero, List.set_cons_succ]
  refine wpAnyH_take (i := 25) (oi := ⟨some 59, _, _, _, _, _⟩) (v := undef) rfl (by kernel_rfl) (by kernel_rfl) (by kernel_rfl) (fun _ _ _ h => h) (Or.inr ⟨by kernel_rfl, rfl⟩) (by assumption) ?_
  simp only [Act.put, List.setIfInBounds_toArray, List.set_cons_zero, List.set_cons_succ]
  refine wpAnyH_take (i := 26) (oi := ⟨some 60, _, _, _, _, _⟩) (v := undef) rfl (by kernel_rfl) (by kernel_rfl) (by kernel_rfl) (fun _ _ _ h => h) (Or.inr ⟨by kernel_rfl, rfl⟩) (by assumption) ?_
  simp only [Act.put, List.setIfInBounds_toArray, List.set_cons_zero, List.set_cons_succ]
  refine wpAnyH_take (i := 27) (oi := ⟨some 61, _, _, _, _, _⟩) (v := undef) rfl (by kernel_rfl) (by kernel_rfl) (by kernel_rfl) (fun _ _ _ h => h) (Or.inr ⟨by kernel_rfl, rfl⟩) (by assumption) ?_
  simp only [Act.put, List.setIfInBounds_toArray, List.set_cons_zero, List.set_cons_succ]
  refine wpAnyH_take (i := 28) (oi := ⟨some 62, _, _, _, _, _⟩) (v := ?_) rfl (by kernel_rfl) (by kernel_rfl) (by kernel_rfl) (fun _ _ _ h => h) (Or.inl ⟨by kernel_rfl, ?hy28⟩) (by assumption) ?_
  case hy28 => (intro w' hSw; (try dsimp only at hSw); go_simp; try with_reducible rfl)
  simp only [Act.put, List.setIfInBounds_toArray, List.set_cons_zero, List.set_cons_succ]
  refine wpAnyH_done (by kernel_rfl) ?_ _
  have KX0 := Lib.hid k6
  have XX0 := Lib.hid x6
  have YY0 := Lib.hid y6
  have xx0 := x6.c0
  have xx1 := x6.c1
  have yy0 := y6.c0
  have yy1 := y6.c1
  clear hHeld
  have KX := KX0
  have XX := XX0
  go_wp2_with fail
  refine (HZ.out _ (spans_below Hsp.out KX.out)).mono ?_
  rintro e wz ⟨rfl, hbz⟩
  have k50 := KX.out.trans (hbz.mono KX.out.size)
  have k51 := (k50.alloc k50.size (.cells #[.string (bs zs), .int .i64 (za : Int)] 25)).drew
  have x51 := ((XX.out.below hbz).alloc (.cells #[.string (bs zs), .int .i64 (za : Int)] 25)).drew
  have z51 := (Bx.new wz 25 (.string (bs zs)) (.int .i64 (za : Int))).drew
  clear hbz k50
  go_wp2_with fail
  refine wp_region_held_drew (S := (fun w' => (w'.cell? ⟨wx.heap.size, 0, none⟩ = some (.string (bs m)) ∧ w'.cell? ⟨wx.heap.size, 1, none⟩ = some (.int .i64 (a : Int))) ∧ (w'.cell? ⟨wz.heap.size, 0, none⟩ = some (.string (bs zs)) ∧ w'.cell? ⟨wz.heap.size, 1, none⟩ = some (.int .i64 (za : Int))))) (by kernel_rfl) ⟨⟨x51.c0, x51.c1⟩, ⟨z51.c0, z51.c1⟩⟩ (fun hHeld => ?_)
  refine wpAnyH_take (i := 0) (oi := ⟨some 89, _, _, _, _, _⟩) (v := ?_) rfl (by kernel_rfl) (by kernel_rfl) (by kernel_rfl) (fun _ _ _ h => h) (Or.inl ⟨by kernel_rfl, ?hy0⟩) (by assumption) ?_
  case hy0 => (intro w' hSw; (try dsimp only at hSw); go_simp; try with_reducible rfl)
  simp only [Act.put, List.setIfInBounds_toArray, List.set_cons_zero, List.set_cons_succ]
  refine wpAnyH_take (i := 1) (oi := ⟨some 90, _, _, _, _, _⟩) (v := ?_) rfl (by kernel_rfl) (by kernel_rfl) (by kernel_rfl) (fun _ _ _ h => h) (Or.inl ⟨by kernel_rfl, ?hy1⟩) (by assumption) ?_
  case hy1 => (intro w' hSw; (try dsimp only at hSw); go_simp; try with_reducible rfl)
  simp only [Act.put, List.setIfInBounds_toArray, List.set_cons_zero, List.set_cons_succ]
  refine wpAnyH_take (i := 4) (oi := ⟨some 93, _, _, _, _, _⟩) (v := ?_) rfl (by kernel_rfl) (by kernel_rfl) (by kernel_rfl) (fun _ _ _ h => h) (Or.inl ⟨by kernel_rfl, ?hy4⟩) (by assumption) ?_
  case hy4 => (intro w' hSw; (try dsimp only at hSw); go_simp; try with_reducible rfl)
  simp only [Act.put, List.setIfInBounds_toArray, List.set_cons_zero, List.set_cons_succ]
  refine wpAnyH_take (i := 5) (oi := ⟨some 94, _, _, _, _, _⟩) (v := ?_) rfl (by kernel_rfl) (by kernel_rfl) (by kernel_rfl) (fun _ _ _ h => h) (Or.inl ⟨by kernel_rfl, ?hy5⟩) (by assumption) ?_
  case hy5 => (intro w' hSw; (try dsimp only at hSw); go_simp; try with_reducible rfl)
  simp only [Act.put, List.setIfInBounds_toArray, List.set_cons_zero, List.set_cons_succ]
  refine wpAnyH_take (i := 8) (oi := ⟨some 97, _, _, _, _, _⟩) (v := ?_) rfl (by kernel_rfl) (by kernel_rfl) (by kernel_rfl) (fun _ _ _ h => h) (Or.inl ⟨by kernel_rfl, ?hy8⟩) (by assumption) ?_
  case hy8 => (intro w' hSw; (try dsimp only at hSw); go_simp; try with_reducible rfl)
  simp only [Act.put, List.setIfInBounds_toArray, List.set_cons_zero, List.set_cons_succ]
  refine wpAnyH_ready (rs := [2]) (by kernel_rfl) (by simp) ?_
  refine AllReadyH.cons (o := ⟨some 91, _, _, _, _, _⟩) rfl (fun K hK => ?_) AllReadyH.nil
  (rw [if_pos (by kernel_rfl)])
  go_simp
  (refine (HCz.out _).mono ?_; rintro e w52 ⟨A52, c52, rfl, _, hb52⟩; have k52 := k51.trans (hb52.mono k51.size); have x52 := x51.below hb52; have z52 := z51.below hb52)
  refine hK.out _ _ ⟨⟨x52.c0, x52.c1⟩, ⟨z52.c0, z52.c1⟩⟩ (fun hHeld => ?_)
  clear hK K
  refine wpAnyH_take (i := 3) (oi := ⟨some 92, _, _, _, _, _⟩) (v := ?_) rfl (by kernel_rfl) (by kernel_rfl) (by kernel_rfl) (fun _ _ _ h => h) (Or.inl ⟨by kernel_rfl, ?hy3⟩) (by assumption) ?_
  case hy3 => (intro w' hSw; (try dsimp only at hSw); go_simp; try with_reducible rfl)
  simp only [Act.put, List.setIfInBounds_toArray, List.set_cons_zero, List.set_cons_succ]
  refine wpAnyH_ready (rs := [6]) (by kernel_rfl) (by simp) ?_
  refine AllReadyH.cons (o := ⟨some 95, _, _, _, _, _⟩) rfl (fun K hK => ?_) AllReadyH.nil
  (rw [if_pos (by kernel_rfl)])
  go_simp
  (refine (HCm.out _).mono ?_; rintro e w53 ⟨A53, c53, rfl, _, hb53⟩; have k53 := k52.trans (hb53.mono k52.size); have x53 := x52.below hb53; have z53 := z52.below hb53)
  refine hK.out _ _ ⟨⟨x53.c0, x53.c1⟩, ⟨z53.c0, z53.c1⟩⟩ (fun hHeld => ?_)
  clear hK K
  refine wpAnyH_take (i := 7) (oi := ⟨some 96, _, _, _, _, _⟩) (v := ?_) rfl (by kernel_rfl) (by kernel_rfl) (by kernel_rfl) (fun _ _ _ h => h) (Or.inl ⟨by kernel_rfl, ?hy7⟩) (by assumption) ?_
  case hy7 => (intro w' hSw; (try dsimp only at hSw); go_simp; try with_reducible rfl)
  simp only [Act.put, List.setIfInBounds_toArray, List.set_cons_zero, List.set_cons_succ]
  refine wpAnyH_ready (rs := [9]) (by kernel_rfl) (by simp) ?_
  refine AllReadyH.cons (o := ⟨some 98, _, _, _, _, _⟩) rfl (fun K hK => ?_) AllReadyH.nil
  (rw [if_pos (by kernel_rfl)])
  go_simp
  (refine (HCg.out _).mono ?_; rintro e w54 ⟨A54, c54, rfl, _, hb54⟩; have k54 := k53.trans (hb54.mono k53.size); have x54 := x53.below hb54; have z54 := z53.below hb54)
  refine hK.out _ _ ⟨⟨x54.c0, x54.c1⟩, ⟨z54.c0, z54.c1⟩⟩ (fun hHeld => ?_)
  clear hK K
  refine wpAnyH_take (i := 10) (oi := ⟨some 99, _, _, _, _, _⟩) (v := ?_) rfl (by kernel_rfl) (by kernel_rfl) (by kernel_rfl) (fun _ _ _ h => h) (Or.inl ⟨by kernel_rfl, ?hy10⟩) (by assumption) ?_
  case hy10 => (intro w' hSw; (try dsimp only at hSw); go_simp; try with_reducible rfl)
  simp only [Act.put, List.setIfInBounds_toArray, List.set_cons_zero, List.set_cons_succ]
  refine wpAnyH_take (i := 11) (oi := ⟨some 100, _, _, _, _, _⟩) (v := ?_) rfl (by kernel_rfl) (by kernel_rfl) (by kernel_rfl) (fun _ _ _ h => h) (Or.inl ⟨by kernel_rfl, ?hy11⟩) (by assumption) ?_
  case hy11 => (intro w' hSw; (try dsimp only at hSw); go_simp; try with_reducible rfl)
  simp only [Act.put, List.setIfInBounds_toArray, List.set_cons_zero, List.set_cons_succ]
  refine wpAnyH_take (i := 12) (oi := ⟨some 101, _, _, _, _, _⟩) (v := ?_) rfl (by kernel_rfl) (by kernel_rfl) (by kernel_rfl) (fun _ _ _ h => h) (Or.inl ⟨by kernel_rfl, ?hy12⟩) (by assumption) ?_
  case hy12 => (intro w' hSw; (try dsimp only at hSw); go_simp; try with_reducible rfl)
  simp only [Act.put, List.setIfInBounds_toArray, List.set_cons_zero, List.set_cons_succ]
  refine wpAnyH_done (by kernel_rfl) ?_ _
  have KQ := Lib.hid k54
  have XQ := Lib.hid x54
  have ZQ := Lib.hid z54
  clear hHeld
  cases hqq : ((nz : Int) != (nm : Int) - (ng : Int)) with
  | true =>
    go_wp2_with fail
    refine (talive_calls _ (spans_below Hsp.out KQ.out)).mono ?_
    rintro e wA ⟨rfl, hbA⟩
    have kA := KQ.out.trans (hbA.mono KQ.out.size)
    go_wp2
    go_ret
    exact ⟨rfl, kA⟩
  | false =>
    have zq0 := ZQ.out.c0
    have zq1 := ZQ.out.c1
    go_wp2_with fail
    refine (HW.out _ (spans_below Hsp.out KQ.out)).mono ?_
    rintro e wv ⟨rfl, hbv⟩
    have kv := KQ.out.trans (hbv.mono KQ.out.size)
    have KV := Lib.hid (kv.alloc kv.size (.cells #[.string (bs ws), .int .i64 (wa : Int)] 25))
    have XV := Lib.hid ((XQ.out.below hbv).alloc (.cells #[.string (bs ws), .int .i64 (wa : Int)] 25))
    have ZV := Lib.hid ((ZQ.out.below hbv).alloc (.cells #[.string (bs ws), .int .i64 (wa : Int)] 25))
    have VV := Lib.hid (Bx.new wv 25 (.string (bs ws)) (.int .i64 (wa : Int)))
    clear hbv kv zq0 zq1
    go_wp2_with fail
    refine (talive_calls _ (spans_below Hsp.out KV.out)).mono ?_
    rintro e wA ⟨rfl, hbA⟩
    have KA := Lib.hid (KV.out.trans (hbA.mono KV.out.size))
    have xa := XV.out.below hbA
    have za' := ZV.out.below hbA
    have va := VV.out.below hbA
    have xa0 := xa.c0
    have xa1 := xa.c1
    have zb0 := za'.c0
    have zb1 := za'.c1
    have va0 := va.c0
    have va1 := va.c1
    clear hbA xa za' va
    by_cases hza : za = a
    · have hne : ((za : Int) != (a : Int)) = false := by rw [hza]; simp
      have hws := Hws.out hza
      subst hws
      go_wp2
      go_ret
      exact ⟨rfl, KA.out⟩
    · have hne : ((za : Int) != (a : Int)) = true := by rw [bne_iff_ne]; omega
      go_wp2
      go_ret
      exact ⟨rfl, KA.out⟩

set_option maxHeartbeats 8000000 in
theorem lback_c (l s : List UInt8) (n to : Int) (w : World) (hb : l.length + s.length ≤ 1500) (h6 : (mS l).length + (plainL s).length ≤ 600) (hA : insA (mS l) (mA l n) (plainL s) = mA l n + (plainL s).length) (hc : ¬ (cutL (insS (mS l) (mA l n) (plainL s))).length = (cutL (mS l)).length + (cutL (plainL s)).length) (hsp : Spans w) :
    Calls Tryd.prog 7 #[.agg #[.string (bs l), .int .i64 n], .string (bs s), .int .i64 to] w fun e w' => e = .returned (.bool true) ∧ Below w.heap.size w w' := by
  have hsz := bs_size l
  have hsz2 := bs_size s
  have HF := few_two (bs l) (bs s) (w.alloc (.cells #[.string (bs l), .int .i64 n] 27)) (by omega)
  rw [decide_eq_true (show (bs l).size + (bs s).size ≤ 1500 by omega), World.size_alloc] at HF
  have HFew := Lib.hid HF
  have b0 := (Bx.new w 27 (.string (bs l)) (.int .i64 n))
  have c0 := b0.c0
  have c1 := b0.c1
  have b1 := b0.alloc (.cells #[.string (bs l), .string (bs s)] 9)
  have k1 : Below w.heap.size w ((w.alloc (.cells #[.string (bs l), .int .i64 n] 27)).alloc (.cells #[.string (bs l), .string (bs s)] 9)) := ((Below.refl _ w).alloc (Nat.le_refl _) _).alloc (by simp) _
  have d0 := b1.c0
  have d1 := b1.c1
  have HM := Lib.hid (fun W h => make_calls l n (by omega) W h)
  have hms := mS_len l
  have hrt := make_rt l n
  have hmm := hrt.make
  have hpl := plain_length s
  have HI := Lib.hid (fun W h => insert_ok (mS l) s (mA l n : Int) (by omega) (by omega) W h (by rw [hmm.1]; exact h6))
  rw [hmm.1, hmm.2] at HI
  have HPl := Lib.hid (fun W => plain_calls s (by omega) W)
  have hyr : Rt (insS (mS l) (mA l n) (plainL s)) (insA (mS l) (mA l n) (plainL s)) := ins_rt hrt (plain_P s) h6
  have hyl := hyr.2.1
  have HZ := Lib.hid (fun W h => cutT_calls (mS l) (mA l n : Int) (mA l n : Int) to (by omega) W h)
  rw [hmm.1, hmm.2, hrt.2.2.back] at HZ
  have hzr := cutR_rt' hrt (mA l n : Int) to
  rw [hrt.2.2.back] at hzr
  obtain ⟨ig, il, ie⟩ := ins_back hrt to
  have hzl := hzr.2.1
  have HW := Lib.hid (fun W h => insert_ok (cutR (mS l) (mA l n) (mA l n) (backL (mS l) to)).1 (cutR (mS l) (mA l n) (mA l n) (backL (mS l) to)).2.2 ((cutR (mS l) (mA l n) (mA l n) (backL (mS l) to)).2.1 : Int) (by omega) (by omega) W h (by rw [hzr.make.1, ig.plain]; exact il))
  rw [hzr.make.1, hzr.make.2, ig.plain] at HW
  have Hws : Hid ((cutR (mS l) (mA l n) (mA l n) (backL (mS l) to)).2.1 = mA l n → insS (cutR (mS l) (mA l n) (mA l n) (backL (mS l) to)).1 (cutR (mS l) (mA l n) (mA l n) (backL (mS l) to)).2.1 (cutR (mS l) (mA l n) (mA l n) (backL (mS l) to)).2.2 = mS l) := Lib.hid fun e => by rw [e]; exact ie e
  have HCz := Lib.hid (fun W => rcut_rd (cutR (mS l) (mA l n) (mA l n) (backL (mS l) to)).1 (by omega) W)
  have HCm := Lib.hid (fun W => rcut_rd (mS l) (by omega) W)
  have HCg := Lib.hid (fun W => rcut_rd (cutR (mS l) (mA l n) (mA l n) (backL (mS l) to)).2.2 (by omega) W)
  have hlz := cutL_length (cutR (mS l) (mA l n) (mA l n) (backL (mS l) to)).1
  have hlm := cutL_length (mS l)
  have hlg := cutL_length (cutR (mS l) (mA l n) (mA l n) (backL (mS l) to)).2.2
  have hw10 : IntKind.i64.wrap (((cutL (mS l)).length : Int) - ((cutL (cutR (mS l) (mA l n) (mA l n) (backL (mS l) to)).2.2).length : Int)) = ((cutL (mS l)).length : Int) - ((cutL (cutR (mS l) (mA l n) (mA l n) (backL (mS l) to)).2.2).length : Int) := IntWalk.i64_in _ (by omega)
  have HCy := Lib.hid (fun W => rcut_rd (insS (mS l) (mA l n) (plainL s)) (by omega) W)
  have HCp := Lib.hid (fun W => rcut_rd (plainL s) (by omega) W)
  have hly := cutL_length (insS (mS l) (mA l n) (plainL s))
  have hlp := cutL_length (plainL s)
  have hw11 : IntKind.i64.wrap (((cutL (mS l)).length : Int) + ((cutL (plainL s)).length : Int)) = ((cutL (mS l)).length : Int) + ((cutL (plainL s)).length : Int) := IntWalk.i64_in _ (by omega)
  have hce : (((cutL (insS (mS l) (mA l n) (plainL s))).length : Int) == ((cutL (mS l)).length : Int) + ((cutL (plainL s)).length : Int)) = false := beq_eq_false_iff_ne.2 (by omega)
  have hw5 : IntKind.i64.wrap ((mA l n : Int) + ((plainL s).length : Int)) = (mA l n : Int) + ((plainL s).length : Int) := IntWalk.i64_in _ (by have := hrt.2.2.le; omega)
  have hae : (((insA (mS l) (mA l n) (plainL s)) : Int) == (mA l n : Int) + ((plainL s).length : Int)) = true := by rw [beq_iff_eq]; omega
  have hszp := bs_size (plainL s)
  have Hsp := Lib.hid hsp
  have K1 := Lib.hid k1
  clear HF hsp b0 b1 k1 hrt hmm hyr hzr ig il ie hyl hzl h6 hA hc
  generalize insA (cutR (mS l) (mA l n) (mA l n) (backL (mS l) to)).1 (cutR (mS l) (mA l n) (mA l n) (backL (mS l) to)).2.1 (cutR (mS l) (mA l n) (mA l n) (backL (mS l) to)).2.2 = wa at *
  generalize insS (cutR (mS l) (mA l n) (mA l n) (backL (mS l) to)).1 (cutR (mS l) (mA l n) (mA l n) (backL (mS l) to)).2.1 (cutR (mS l) (mA l n) (mA l n) (backL (mS l) to)).2.2 = ws at *
  generalize (cutL (cutR (mS l) (mA l n) (mA l n) (backL (mS l) to)).1).length = nz at *
  generalize (cutL (cutR (mS l) (mA l n) (mA l n) (backL (mS l) to)).2.2).length = ng at *
  generalize (cutR (mS l) (mA l n) (mA l n) (backL (mS l) to)).1 = zs at *
  generalize (cutR (mS l) (mA l n) (mA l n) (backL (mS l) to)).2.1 = za at *
  generalize (cutR (mS l) (mA l n) (mA l n) (backL (mS l) to)).2.2 = zg at *
  generalize (cutL (insS (mS l) (mA l n) (plainL s))).length = ny at *
  generalize (cutL (plainL s)).length = np at *
  generalize (cutL (mS l)).length = nm at *
  generalize (insA (mS l) (mA l n) (plainL s)) = ya at *
  generalize (insS (mS l) (mA l n) (plainL s)) = ys at *
  generalize plainL s = p at *
  generalize mA l n = a at *
  generalize mS l = m at *
  go_enter Tryd.func7, Tryd.ntmps7
  go_wp2_with fail
  refine HFew.out.mono ?_
  rintro e w0 ⟨rfl, rfl⟩
  go_wp2_with fail
  refine (HM.out _ (spans_below Hsp.out K1.out)).mono ?_
  rintro e wx ⟨rfl, hbx⟩
  have kx := K1.out.trans (hbx.mono K1.out.size)
  have x2 := Bx.new wx 25 (.string (bs m)) (.int .i64 (a : Int))
  have K2 := Lib.hid (kx.alloc kx.size (.cells #[.string (bs m), .int .i64 (a : Int)] 25))
  have e0 := x2.c0
  have e1 := x2.c1
  have X2 := Lib.hid x2
  clear hbx kx x2 c0 c1 d0 d1
  go_wp2_with fail
  refine (HI.out _ (spans_below Hsp.out K2.out)).mono ?_
  rintro e wy ⟨rfl, hby⟩
  have ky := K2.out.trans (hby.mono K2.out.size)
  have k5a := ky.alloc ky.size (.cells #[.string (bs ys), .int .i64 (ya : Int)] 25)
  have x5a := (X2.out.below hby).alloc (.cells #[.string (bs ys), .int .i64 (ya : Int)] 25)
  have y5a := Bx.new wy 25 (.string (bs ys)) (.int .i64 (ya : Int))
  have k5 := k5a.drew
  have x5 := x5a.drew
  have y5 := y5a.drew
  clear hby ky e0 e1 k5a x5a y5a
  go_wp2_with fail
  refine wp_region_held_drew (S := (fun w' => (w'.cell? ⟨wx.heap.size, 0, none⟩ = some (.string (bs m)) ∧ w'.cell? ⟨wx.heap.size, 1, none⟩ = some (.int .i64 (a : Int))) ∧ (w'.cell? ⟨wy.heap.size, 0, none⟩ = some (.string (bs ys)) ∧ w'.cell? ⟨wy.heap.size, 1, none⟩ = some (.int .i64 (ya : Int))))) (by kernel_rfl) ⟨⟨x5.c0, x5.c1⟩, ⟨y5.c0, y5.c1⟩⟩ (fun hHeld => ?_)
  refine wpAnyH_take (i := 0) (oi := ⟨some 34, _, _, _, _, _⟩) (v := ?_) rfl (by kernel_rfl) (by kernel_rfl) (by kernel_rfl) (fun _ _ _ h => h) (Or.inl ⟨by kernel_rfl, ?hy0⟩) (by assumption) ?_
  case hy0 => (intro w' hSw; (try dsimp only at hSw); go_simp; try with_reducible rfl)
  simp only [Act.put, List.setIfInBounds_toArray, List.set_cons_zero, List.set_cons_succ]
  refine wpAnyH_take (i := 1) (oi := ⟨some 35, _, _, _, _, _⟩) (v := ?_) rfl (by kernel_rfl) (by kernel_rfl) (by kernel_rfl) (fun _ _ _ h => h) (Or.inl ⟨by kernel_rfl, ?hy1⟩) (by assumption) ?_
  case hy1 => (intro w' hSw; (try dsimp only at hSw); go_simp; try with_reducible rfl)
  simp only [Act.put, List.setIfInBounds_toArray, List.set_cons_zero, List.set_cons_succ]
  refine wpAnyH_take (i := 2) (oi := ⟨some 36, _, _, _, _, _⟩) (v := ?_) rfl (by kernel_rfl) (by kernel_rfl) (by kernel_rfl) (fun _ _ _ h => h) (Or.inl ⟨by kernel_rfl, ?hy2⟩) (by assumption) ?_
  case hy2 => (intro w' hSw; (try dsimp only at hSw); go_simp; try with_reducible rfl)
  simp only [Act.put, List.setIfInBounds_toArray, List.set_cons_zero, List.set_cons_succ]
  refine wpAnyH_take (i := 3) (oi := ⟨some 37, _, _, _, _, _⟩) (v := ?_) rfl (by kernel_rfl) (by kernel_rfl) (by kernel_rfl) (fun _ _ _ h => h) (Or.inl ⟨by kernel_rfl, ?hy3⟩) (by assumption) ?_
  case hy3 => (intro w' hSw; (try dsimp only at hSw); go_simp; try with_reducible rfl)
  simp only [Act.put, List.setIfInBounds_toArray, List.set_cons_zero, List.set_cons_succ]
  refine wpAnyH_take (i := 4) (oi := ⟨some 38, _, _, _, _, _⟩) (v := ?_) rfl (by kernel_rfl) (by kernel_rfl) (by kernel_rfl) (fun _ _ _ h => h) (Or.inl ⟨by kernel_rfl, ?hy4⟩) (by assumption) ?_
  case hy4 => (intro w' hSw; (try dsimp only at hSw); go_simp; try with_reducible rfl)
  simp only [Act.put, List.setIfInBounds_toArray, List.set_cons_zero, List.set_cons_succ]
  refine wpAnyH_take (i := 5) (oi := ⟨some 39, _, _, _, _, _⟩) (v := ?_) rfl (by kernel_rfl) (by kernel_rfl) (by kernel_rfl) (fun _ _ _ h => h) (Or.inl ⟨by kernel_rfl, ?hy5⟩) (by assumption) ?_
  case hy5 => (intro w' hSw; (try dsimp only at hSw); go_simp; try with_reducible rfl)
  simp only [Act.put, List.setIfInBounds_toArray, List.set_cons_zero, List.set_cons_succ]
  refine wpAnyH_take (i := 6) (oi := ⟨some 40, _, _, _, _, _⟩) (v := ?_) rfl (by kernel_rfl) (by kernel_rfl) (by kernel_rfl) (fun _ _ _ h => h) (Or.inl ⟨by kernel_rfl, ?hy6⟩) (by assumption) ?_
  case hy6 => (intro w' hSw; (try dsimp only at hSw); go_simp; try with_reducible rfl)
  simp only [Act.put, List.setIfInBounds_toArray, List.set_cons_zero, List.set_cons_succ]
  refine wpAnyH_take (i := 7) (oi := ⟨some 41, _, _, _, _, _⟩) (v := ?_) rfl (by kernel_rfl) (by kernel_rfl) (by kernel_rfl) (fun _ _ _ h => h) (Or.inl ⟨by kernel_rfl, ?hy7⟩) (by assumption) ?_
  case hy7 => (intro w' hSw; (try dsimp only at hSw); go_simp; try with_reducible rfl)
  simp only [Act.put, List.setIfInBounds_toArray, List.set_cons_zero, List.set_cons_succ]
  refine wpAnyH_ready (rs := [8]) (by kernel_rfl) (by simp) ?_
  refine AllReadyH.cons (o := ⟨some 42, _, _, _, _, _⟩) rfl (fun K hK => ?_) AllReadyH.nil
  (rw [if_pos (by kernel_rfl)])
  go_simp
  (refine (HPl.out _).mono ?_; rintro e w6 ⟨rfl, hb6⟩; have k6 := k5.trans (hb6.mono k5.size); have x6 := x5.below hb6; have y6 := y5.below hb6)
  refine hK.out _ _ ⟨⟨x6.c0, x6.c1⟩, ⟨y6.c0, y6.c1⟩⟩ (fun hHeld => ?_)
  clear hK K
  refine wpAnyH_take (i := 9) (oi := ⟨some 43, _, _, _, _, _⟩) (v := ?_) rfl (by kernel_rfl) (by kernel_rfl) (by kernel_rfl) (fun _ _ _ h => h) (Or.inl ⟨by kernel_rfl, ?hy9⟩) (by assumption) ?_
  case hy9 => (intro w' hSw; (try dsimp only at hSw); go_simp; try with_reducible rfl)
  simp only [Act.put, List.setIfInBounds_toArray, List.set_cons_zero, List.set_cons_succ]
  refine wpAnyH_take (i := 10) (oi := ⟨some 44, _, _, _, _, _⟩) (v := ?_) rfl (by kernel_rfl) (by kernel_rfl) (by kernel_rfl) (fun _ _ _ h => h) (Or.inl ⟨by kernel_rfl, ?hy10⟩) (by assumption) ?_
  case hy10 => (intro w' hSw; (try dsimp only at hSw); go_simp; try with_reducible rfl)
  simp only [Act.put, List.setIfInBounds_toArray, List.set_cons_zero, List.set_cons_succ]
  refine wpAnyH_take (i := 11) (oi := ⟨some 45, _, _, _, _, _⟩) (v := ?_) rfl (by kernel_rfl) (by kernel_rfl) (by kernel_rfl) (fun _ _ _ h => h) (Or.inl ⟨by kernel_rfl, ?hy11⟩) (by assumption) ?_
  case hy11 => (intro w' hSw; (try dsimp only at hSw); go_simp; try with_reducible rfl)
  simp only [Act.put, List.setIfInBounds_toArray, List.set_cons_zero, List.set_cons_succ]
  refine wpAnyH_take (i := 12) (oi := ⟨some 46, _, _, _, _, _⟩) (v := ?_) rfl (by kernel_rfl) (by kernel_rfl) (by kernel_rfl) (fun _ _ _ h => h) (Or.inl ⟨by kernel_rfl, ?hy12⟩) (by assumption) ?_
  case hy12 => (intro w' hSw; (try dsimp only at hSw); go_simp; try with_reducible rfl)
  simp only [Act.put, List.setIfInBounds_toArray, List.set_cons_zero, List.set_cons_succ]
  refine wpAnyH_take (i := 13) (oi := ⟨some 47, _, _, _, _, _⟩) (v := ?_) rfl (by kernel_rfl) (by kernel_rfl) (by kernel_rfl) (fun _ _ _ h => h) (Or.inl ⟨by kernel_rfl, ?hy13⟩) (by assumption) ?_
  case hy13 => (intro w' hSw; (try dsimp only at hSw); go_simp; try with_reducible rfl)
  simp only [Act.put, List.setIfInBounds_toArray, List.set_cons_zero, List.set_cons_succ]
  refine wpAnyH_take (i := 14) (oi := ⟨some 48, _, _, _, _, _⟩) (v := ?_) rfl (by kernel_rfl) (by kernel_rfl) (by kernel_rfl) (fun _ _ _ h => h) (Or.inl ⟨by kernel_rfl, ?hy14⟩) (by assumption) ?_
  case hy14 => (intro w' hSw; (try dsimp only at hSw); go_simp; try with_reducible rfl)
  simp only [Act.put, List.setIfInBounds_toArray, List.set_cons_zero, List.set_cons_succ]
  refine wpAnyH_take (i := 15) (oi := ⟨some 49, _, _, _, _, _⟩) (v := ?_) rfl (by kernel_rfl) (by kernel_rfl) (by kernel_rfl) (fun _ _ _ h => h) (Or.inl ⟨by kernel_rfl, ?hy15⟩) (by assumption) ?_
  case hy15 => (intro w' hSw; (try dsimp only at hSw); go_simp; try with_reducible rfl)
  simp only [Act.put, List.setIfInBounds_toArray, List.set_cons_zero, List.set_cons_succ]
  refine wpAnyH_take (i := 18) (oi := ⟨some 52, _, _, _, _, _⟩) (v := ?_) rfl (by kernel_rfl) (by kernel_rfl) (by kernel_rfl) (fun _ _ _ h => h) (Or.inl ⟨by kernel_rfl, ?hy18⟩) (by assumption) ?_
  case hy18 => (intro w' hSw; (try dsimp only at hSw); go_simp; try with_reducible rfl)
  simp only [Act.put, List.setIfInBounds_toArray, List.set_cons_zero, List.set_cons_succ]
  refine wpAnyH_take (i := 19) (oi := ⟨some 53, _, _, _, _, _⟩) (v := ?_) rfl (by kernel_rfl) (by kernel_rfl) (by kernel_rfl) (fun _ _ _ h => h) (Or.inl ⟨by kernel_rfl, ?hy19⟩) (by assumption) ?_
  case hy19 => (intro w' hSw; (try dsimp only at hSw); go_simp; try with_reducible rfl)
  simp only [Act.put, List.setIfInBounds_toArray, List.set_cons_zero, List.set_cons_succ]
  refine wpAnyH_take (i := 22) (oi := ⟨some 56, _, _, _, _, _⟩) (v := ?_) rfl (by kernel_rfl) (by kernel_rfl) (by kernel_rfl) (fun _ _ _ h => h) (Or.inl ⟨by kernel_rfl, ?hy22⟩) (by assumption) ?_
  case hy22 => (intro w' hSw; (try dsimp only at hSw); go_simp; try with_reducible rfl)
  simp only [Act.put, List.setIfInBounds_toArray, List.set_cons_zero, List.set_cons_succ]
  refine wpAnyH_ready (rs := [16]) (by kernel_rfl) (by simp) ?_
  refine AllReadyH.cons (o := ⟨some 50, _, _, _, _, _⟩) rfl (fun K hK => ?_) AllReadyH.nil
  (rw [if_pos (by kernel_rfl)])
  go_simp
  (refine (HCy.out _).mono ?_; rintro e w7 ⟨A7, c7, rfl, _, hb7⟩; have k7 := k6.trans (hb7.mono k6.size); have x7 := x6.below hb7; have y7 := y6.below hb7)
  refine hK.out _ _ ⟨⟨x7.c0, x7.c1⟩, ⟨y7.c0, y7.c1⟩⟩ (fun hHeld => ?_)
  clear hK K
  refine wpAnyH_take (i := 17) (oi := ⟨some 51, _, _, _, _, _⟩) (v := ?_) rfl (by kernel_rfl) (by kernel_rfl) (by kernel_rfl) (fun _ _ _ h => h) (Or.inl ⟨by kernel_rfl, ?hy17⟩) (by assumption) ?_
  case hy17 => (intro w' hSw; (try dsimp only at hSw); go_simp; try with_reducible rfl)
  simp only [Act.put, List.setIfInBounds_toArray, List.set_cons_zero, List.set_cons_succ]
  refine wpAnyH_ready (rs := [20]) (by kernel_rfl) (by simp) ?_
  refine AllReadyH.cons (o := ⟨some 54, _, _, _, _, _⟩) rfl (fun K hK => ?_) AllReadyH.nil
  (rw [if_pos (by kernel_rfl)])
  go_simp
  (refine (HCm.out _).mono ?_; rintro e w8 ⟨A8, c8, rfl, _, hb8⟩; have k8 := k7.trans (hb8.mono k7.size); have x8 := x7.below hb8; have y8 := y7.below hb8)
  refine hK.out _ _ ⟨⟨x8.c0, x8.c1⟩, ⟨y8.c0, y8.c1⟩⟩ (fun hHeld => ?_)
  clear hK K
  refine wpAnyH_take (i := 21) (oi := ⟨some 55, _, _, _, _, _⟩) (v := ?_) rfl (by kernel_rfl) (by kernel_rfl) (by kernel_rfl) (fun _ _ _ h => h) (Or.inl ⟨by kernel_rfl, ?hy21⟩) (by assumption) ?_
  case hy21 => (intro w' hSw; (try dsimp only at hSw); go_simp; try with_reducible rfl)
  simp only [Act.put, List.setIfInBounds_toArray, List.set_cons_zero, List.set_cons_succ]
  refine wpAnyH_ready (rs := [23]) (by kernel_rfl) (by simp) ?_
  refine AllReadyH.cons (o := ⟨some 57, _, _, _, _, _⟩) rfl (fun K hK => ?_) AllReadyH.nil
  (rw [if_pos (by kernel_rfl)])
  go_simp
  (refine (HPl.out _).mono ?_; rintro e w9 ⟨rfl, hb9⟩; have k9 := k8.trans (hb9.mono k8.size); have x9 := x8.below hb9; have y9 := y8.below hb9)
  refine hK.out _ _ ⟨⟨x9.c0, x9.c1⟩, ⟨y9.c0, y9.c1⟩⟩ (fun hHeld => ?_)
  clear hK K
  refine wpAnyH_ready (rs := [24]) (by kernel_rfl) (by simp) ?_
  refine AllReadyH.cons (o := ⟨some 58, _, _, _, _, _⟩) rfl (fun K hK => ?_) AllReadyH.nil
  (rw [if_pos (by kernel_rfl)])
  go_simp
  (refine (HCp.out _).mono ?_; rintro e w10 ⟨A10, c10, rfl, _, hb10⟩; have k10 := k9.trans (hb10.mono k9.size); have x10 := x9.below hb10; have y10 := y9.below hb10)
  refine hK.out _ _ ⟨⟨x10.c0, x10.c1⟩, ⟨y10.c0, y10.c1⟩⟩ (fun hHeld => ?_)
  clear hK K
  refine wpAnyH_take (i := 25) (oi := ⟨some 59, _, _, _, _, _⟩) (v := ?_) rfl (by kernel_rfl) (by kernel_rfl) (by kernel_rfl) (fun _ _ _ h => h) (Or.inl ⟨by kernel_rfl, ?hy25⟩) (by assumption) ?_
  case hy25 => (intro w' hSw; (try dsimp only at hSw); go_simp; try with_reducible rfl)
  simp only [Act.put, List.setIfInBounds_toArray, List.set_cons_zero, List.set_cons_succ]
  refine wpAnyH_take (i := 26) (oi := ⟨some 60, _, _, _, _, _⟩) (v := ?_) rfl (by kernel_rfl) (by kernel_rfl) (by kernel_rfl) (fun _ _ _ h => h) (Or.inl ⟨by kernel_rfl, ?hy26⟩) (by assumption) ?_
  case hy26 => (intro w' hSw; (try dsimp only at hSw); go_simp; try with_reducible rfl)
  simp only [Act.put, List.setIfInBounds_toArray, List.set_cons_zero, List.set_cons_succ]
  refine wpAnyH_take (i := 27) (oi := ⟨some 61, _, _, _, _, _⟩) (v := ?_) rfl (by kernel_rfl) (by kernel_rfl) (by kernel_rfl) (fun _ _ _ h => h) (Or.inl ⟨by kernel_rfl, ?hy27⟩) (by assumption) ?_
  case hy27 => (intro w' hSw; (try dsimp only at hSw); go_simp; try with_reducible rfl)
  simp only [Act.put, List.setIfInBounds_toArray, List.set_cons_zero, List.set_cons_succ]
  refine wpAnyH_take (i := 28) (oi := ⟨some 62, _, _, _, _, _⟩) (v := ?_) rfl (by kernel_rfl) (by kernel_rfl) (by kernel_rfl) (fun _ _ _ h => h) (Or.inl ⟨by kernel_rfl, ?hy28⟩) (by assumption) ?_
  case hy28 => (intro w' hSw; (try dsimp only at hSw); go_simp; try with_reducible rfl)
  simp only [Act.put, List.setIfInBounds_toArray, List.set_cons_zero, List.set_cons_succ]
  refine wpAnyH_done (by kernel_rfl) ?_ _
  have KX0 := Lib.hid k10
  have XX0 := Lib.hid x10
  have YY0 := Lib.hid y10
  have xx0 := x10.c0
  have xx1 := x10.c1
  have yy0 := y10.c0
  have yy1 := y10.c1
  clear hHeld
  have KX := KX0
  have XX := XX0
  go_wp2_with fail
  refine (HZ.out _ (spans_below Hsp.out KX.out)).mono ?_
  rintro e wz ⟨rfl, hbz⟩
  have k50 := KX.out.trans (hbz.mono KX.out.size)
  have k51 := (k50.alloc k50.size (.cells #[.string (bs zs), .int .i64 (za : Int)] 25)).drew
  have x51 := ((XX.out.below hbz).alloc (.cells #[.string (bs zs), .int .i64 (za : Int)] 25)).drew
  have z51 := (Bx.new wz 25 (.string (bs zs)) (.int .i64 (za : Int))).drew
  clear hbz k50
  go_wp2_with fail
  refine wp_region_held_drew (S := (fun w' => (w'.cell? ⟨wx.heap.size, 0, none⟩ = some (.string (bs m)) ∧ w'.cell? ⟨wx.heap.size, 1, none⟩ = some (.int .i64 (a : Int))) ∧ (w'.cell? ⟨wz.heap.size, 0, none⟩ = some (.string (bs zs)) ∧ w'.cell? ⟨wz.heap.size, 1, none⟩ = some (.int .i64 (za : Int))))) (by kernel_rfl) ⟨⟨x51.c0, x51.c1⟩, ⟨z51.c0, z51.c1⟩⟩ (fun hHeld => ?_)
  refine wpAnyH_take (i := 0) (oi := ⟨some 89, _, _, _, _, _⟩) (v := ?_) rfl (by kernel_rfl) (by kernel_rfl) (by kernel_rfl) (fun _ _ _ h => h) (Or.inl ⟨by kernel_rfl, ?hy0⟩) (by assumption) ?_
  case hy0 => (intro w' hSw; (try dsimp only at hSw); go_simp; try with_reducible rfl)
  simp only [Act.put, List.setIfInBounds_toArray, List.set_cons_zero, List.set_cons_succ]
  refine wpAnyH_take (i := 1) (oi := ⟨some 90, _, _, _, _, _⟩) (v := ?_) rfl (by kernel_rfl) (by kernel_rfl) (by kernel_rfl) (fun _ _ _ h => h) (Or.inl ⟨by kernel_rfl, ?hy1⟩) (by assumption) ?_
  case hy1 => (intro w' hSw; (try dsimp only at hSw); go_simp; try with_reducible rfl)
  simp only [Act.put, List.setIfInBounds_toArray, List.set_cons_zero, List.set_cons_succ]
  refine wpAnyH_take (i := 4) (oi := ⟨some 93, _, _, _, _, _⟩) (v := ?_) rfl (by kernel_rfl) (by kernel_rfl) (by kernel_rfl) (fun _ _ _ h => h) (Or.inl ⟨by kernel_rfl, ?hy4⟩) (by assumption) ?_
  case hy4 => (intro w' hSw; (try dsimp only at hSw); go_simp; try with_reducible rfl)
  simp only [Act.put, List.setIfInBounds_toArray, List.set_cons_zero, List.set_cons_succ]
  refine wpAnyH_take (i := 5) (oi := ⟨some 94, _, _, _, _, _⟩) (v := ?_) rfl (by kernel_rfl) (by kernel_rfl) (by kernel_rfl) (fun _ _ _ h => h) (Or.inl ⟨by kernel_rfl, ?hy5⟩) (by assumption) ?_
  case hy5 => (intro w' hSw; (try dsimp only at hSw); go_simp; try with_reducible rfl)
  simp only [Act.put, List.setIfInBounds_toArray, List.set_cons_zero, List.set_cons_succ]
  refine wpAnyH_take (i := 8) (oi := ⟨some 97, _, _, _, _, _⟩) (v := ?_) rfl (by kernel_rfl) (by kernel_rfl) (by kernel_rfl) (fun _ _ _ h => h) (Or.inl ⟨by kernel_rfl, ?hy8⟩) (by assumption) ?_
  case hy8 => (intro w' hSw; (try dsimp only at hSw); go_simp; try with_reducible rfl)
  simp only [Act.put, List.setIfInBounds_toArray, List.set_cons_zero, List.set_cons_succ]
  refine wpAnyH_ready (rs := [2]) (by kernel_rfl) (by simp) ?_
  refine AllReadyH.cons (o := ⟨some 91, _, _, _, _, _⟩) rfl (fun K hK => ?_) AllReadyH.nil
  (rw [if_pos (by kernel_rfl)])
  go_simp
  (refine (HCz.out _).mono ?_; rintro e w52 ⟨A52, c52, rfl, _, hb52⟩; have k52 := k51.trans (hb52.mono k51.size); have x52 := x51.below hb52; have z52 := z51.below hb52)
  refine hK.out _ _ ⟨⟨x52.c0, x52.c1⟩, ⟨z52.c0, z52.c1⟩⟩ (fun hHeld => ?_)
  clear hK K
  refine wpAnyH_take (i := 3) (oi := ⟨some 92, _, _, _, _, _⟩) (v := ?_) rfl (by kernel_rfl) (by kernel_rfl) (by kernel_rfl) (fun _ _ _ h => h) (Or.inl ⟨by kernel_rfl, ?hy3⟩) (by assumption) ?_
  case hy3 => (intro w' hSw; (try dsimp only at hSw); go_simp; try with_reducible rfl)
  simp only [Act.put, List.setIfInBounds_toArray, List.set_cons_zero, List.set_cons_succ]
  refine wpAnyH_ready (rs := [6]) (by kernel_rfl) (by simp) ?_
  refine AllReadyH.cons (o := ⟨some 95, _, _, _, _, _⟩) rfl (fun K hK => ?_) AllReadyH.nil
  (rw [if_pos (by kernel_rfl)])
  go_simp
  (refine (HCm.out _).mono ?_; rintro e w53 ⟨A53, c53, rfl, _, hb53⟩; have k53 := k52.trans (hb53.mono k52.size); have x53 := x52.below hb53; have z53 := z52.below hb53)
  refine hK.out _ _ ⟨⟨x53.c0, x53.c1⟩, ⟨z53.c0, z53.c1⟩⟩ (fun hHeld => ?_)
  clear hK K
  refine wpAnyH_take (i := 7) (oi := ⟨some 96, _, _, _, _, _⟩) (v := ?_) rfl (by kernel_rfl) (by kernel_rfl) (by kernel_rfl) (fun _ _ _ h => h) (Or.inl ⟨by kernel_rfl, ?hy7⟩) (by assumption) ?_
  case hy7 => (intro w' hSw; (try dsimp only at hSw); go_simp; try with_reducible rfl)
  simp only [Act.put, List.setIfInBounds_toArray, List.set_cons_zero, List.set_cons_succ]
  refine wpAnyH_ready (rs := [9]) (by kernel_rfl) (by simp) ?_
  refine AllReadyH.cons (o := ⟨some 98, _, _, _, _, _⟩) rfl (fun K hK => ?_) AllReadyH.nil
  (rw [if_pos (by kernel_rfl)])
  go_simp
  (refine (HCg.out _).mono ?_; rintro e w54 ⟨A54, c54, rfl, _, hb54⟩; have k54 := k53.trans (hb54.mono k53.size); have x54 := x53.below hb54; have z54 := z53.below hb54)
  refine hK.out _ _ ⟨⟨x54.c0, x54.c1⟩, ⟨z54.c0, z54.c1⟩⟩ (fun hHeld => ?_)
  clear hK K
  refine wpAnyH_take (i := 10) (oi := ⟨some 99, _, _, _, _, _⟩) (v := ?_) rfl (by kernel_rfl) (by kernel_rfl) (by kernel_rfl) (fun _ _ _ h => h) (Or.inl ⟨by kernel_rfl, ?hy10⟩) (by assumption) ?_
  case hy10 => (intro w' hSw; (try dsimp only at hSw); go_simp; try with_reducible rfl)
  simp only [Act.put, List.setIfInBounds_toArray, List.set_cons_zero, List.set_cons_succ]
  refine wpAnyH_take (i := 11) (oi := ⟨some 100, _, _, _, _, _⟩) (v := ?_) rfl (by kernel_rfl) (by kernel_rfl) (by kernel_rfl) (fun _ _ _ h => h) (Or.inl ⟨by kernel_rfl, ?hy11⟩) (by assumption) ?_
  case hy11 => (intro w' hSw; (try dsimp only at hSw); go_simp; try with_reducible rfl)
  simp only [Act.put, List.setIfInBounds_toArray, List.set_cons_zero, List.set_cons_succ]
  refine wpAnyH_take (i := 12) (oi := ⟨some 101, _, _, _, _, _⟩) (v := ?_) rfl (by kernel_rfl) (by kernel_rfl) (by kernel_rfl) (fun _ _ _ h => h) (Or.inl ⟨by kernel_rfl, ?hy12⟩) (by assumption) ?_
  case hy12 => (intro w' hSw; (try dsimp only at hSw); go_simp; try with_reducible rfl)
  simp only [Act.put, List.setIfInBounds_toArray, List.set_cons_zero, List.set_cons_succ]
  refine wpAnyH_done (by kernel_rfl) ?_ _
  have KQ := Lib.hid k54
  have XQ := Lib.hid x54
  have ZQ := Lib.hid z54
  clear hHeld
  cases hqq : ((nz : Int) != (nm : Int) - (ng : Int)) with
  | true =>
    go_wp2_with fail
    refine (talive_calls _ (spans_below Hsp.out KQ.out)).mono ?_
    rintro e wA ⟨rfl, hbA⟩
    have kA := KQ.out.trans (hbA.mono KQ.out.size)
    go_wp2
    go_ret
    exact ⟨rfl, kA⟩
  | false =>
    have zq0 := ZQ.out.c0
    have zq1 := ZQ.out.c1
    go_wp2_with fail
    refine (HW.out _ (spans_below Hsp.out KQ.out)).mono ?_
    rintro e wv ⟨rfl, hbv⟩
    have kv := KQ.out.trans (hbv.mono KQ.out.size)
    have KV := Lib.hid (kv.alloc kv.size (.cells #[.string (bs ws), .int .i64 (wa : Int)] 25))
    have XV := Lib.hid ((XQ.out.below hbv).alloc (.cells #[.string (bs ws), .int .i64 (wa : Int)] 25))
    have ZV := Lib.hid ((ZQ.out.below hbv).alloc (.cells #[.string (bs ws), .int .i64 (wa : Int)] 25))
    have VV := Lib.hid (Bx.new wv 25 (.string (bs ws)) (.int .i64 (wa : Int)))
    clear hbv kv zq0 zq1
    go_wp2_with fail
    refine (talive_calls _ (spans_below Hsp.out KV.out)).mono ?_
    rintro e wA ⟨rfl, hbA⟩
    have KA := Lib.hid (KV.out.trans (hbA.mono KV.out.size))
    have xa := XV.out.below hbA
    have za' := ZV.out.below hbA
    have va := VV.out.below hbA
    have xa0 := xa.c0
    have xa1 := xa.c1
    have zb0 := za'.c0
    have zb1 := za'.c1
    have va0 := va.c0
    have va1 := va.c1
    clear hbA xa za' va
    by_cases hza : za = a
    · have hne : ((za : Int) != (a : Int)) = false := by rw [hza]; simp
      have hws := Hws.out hza
      subst hws
      go_wp2
      go_ret
      exact ⟨rfl, KA.out⟩
    · have hne : ((za : Int) != (a : Int)) = true := by rw [bne_iff_ne]; omega
      go_wp2
      go_ret
      exact ⟨rfl, KA.out⟩

set_option maxHeartbeats 8000000 in
theorem lback_o (l s : List UInt8) (n to : Int) (w : World) (hb : l.length + s.length ≤ 1500) (h6 : (mS l).length + (plainL s).length ≤ 600) (hA : insA (mS l) (mA l n) (plainL s) = mA l n + (plainL s).length) (hc : (cutL (insS (mS l) (mA l n) (plainL s))).length = (cutL (mS l)).length + (cutL (plainL s)).length) (hsp : Spans w) :
    Calls Tryd.prog 7 #[.agg #[.string (bs l), .int .i64 n], .string (bs s), .int .i64 to] w fun e w' => e = .returned (.bool true) ∧ Below w.heap.size w w' := by
  have hsz := bs_size l
  have hsz2 := bs_size s
  have HF := few_two (bs l) (bs s) (w.alloc (.cells #[.string (bs l), .int .i64 n] 27)) (by omega)
  rw [decide_eq_true (show (bs l).size + (bs s).size ≤ 1500 by omega), World.size_alloc] at HF
  have HFew := Lib.hid HF
  have b0 := (Bx.new w 27 (.string (bs l)) (.int .i64 n))
  have c0 := b0.c0
  have c1 := b0.c1
  have b1 := b0.alloc (.cells #[.string (bs l), .string (bs s)] 9)
  have k1 : Below w.heap.size w ((w.alloc (.cells #[.string (bs l), .int .i64 n] 27)).alloc (.cells #[.string (bs l), .string (bs s)] 9)) := ((Below.refl _ w).alloc (Nat.le_refl _) _).alloc (by simp) _
  have d0 := b1.c0
  have d1 := b1.c1
  have HM := Lib.hid (fun W h => make_calls l n (by omega) W h)
  have hms := mS_len l
  have hrt := make_rt l n
  have hmm := hrt.make
  have hpl := plain_length s
  have HI := Lib.hid (fun W h => insert_ok (mS l) s (mA l n : Int) (by omega) (by omega) W h (by rw [hmm.1]; exact h6))
  rw [hmm.1, hmm.2] at HI
  have HPl := Lib.hid (fun W => plain_calls s (by omega) W)
  have hyr : Rt (insS (mS l) (mA l n) (plainL s)) (insA (mS l) (mA l n) (plainL s)) := ins_rt hrt (plain_P s) h6
  have hyl := hyr.2.1
  have HZ := Lib.hid (fun W h => cutT_calls (mS l) (mA l n : Int) (mA l n : Int) to (by omega) W h)
  rw [hmm.1, hmm.2, hrt.2.2.back] at HZ
  have hzr := cutR_rt' hrt (mA l n : Int) to
  rw [hrt.2.2.back] at hzr
  obtain ⟨ig, il, ie⟩ := ins_back hrt to
  have hzl := hzr.2.1
  have HW := Lib.hid (fun W h => insert_ok (cutR (mS l) (mA l n) (mA l n) (backL (mS l) to)).1 (cutR (mS l) (mA l n) (mA l n) (backL (mS l) to)).2.2 ((cutR (mS l) (mA l n) (mA l n) (backL (mS l) to)).2.1 : Int) (by omega) (by omega) W h (by rw [hzr.make.1, ig.plain]; exact il))
  rw [hzr.make.1, hzr.make.2, ig.plain] at HW
  have Hws : Hid ((cutR (mS l) (mA l n) (mA l n) (backL (mS l) to)).2.1 = mA l n → insS (cutR (mS l) (mA l n) (mA l n) (backL (mS l) to)).1 (cutR (mS l) (mA l n) (mA l n) (backL (mS l) to)).2.1 (cutR (mS l) (mA l n) (mA l n) (backL (mS l) to)).2.2 = mS l) := Lib.hid fun e => by rw [e]; exact ie e
  have HCz := Lib.hid (fun W => rcut_rd (cutR (mS l) (mA l n) (mA l n) (backL (mS l) to)).1 (by omega) W)
  have HCm := Lib.hid (fun W => rcut_rd (mS l) (by omega) W)
  have HCg := Lib.hid (fun W => rcut_rd (cutR (mS l) (mA l n) (mA l n) (backL (mS l) to)).2.2 (by omega) W)
  have hlz := cutL_length (cutR (mS l) (mA l n) (mA l n) (backL (mS l) to)).1
  have hlm := cutL_length (mS l)
  have hlg := cutL_length (cutR (mS l) (mA l n) (mA l n) (backL (mS l) to)).2.2
  have hw10 : IntKind.i64.wrap (((cutL (mS l)).length : Int) - ((cutL (cutR (mS l) (mA l n) (mA l n) (backL (mS l) to)).2.2).length : Int)) = ((cutL (mS l)).length : Int) - ((cutL (cutR (mS l) (mA l n) (mA l n) (backL (mS l) to)).2.2).length : Int) := IntWalk.i64_in _ (by omega)
  have HCy := Lib.hid (fun W => rcut_rd (insS (mS l) (mA l n) (plainL s)) (by omega) W)
  have HCp := Lib.hid (fun W => rcut_rd (plainL s) (by omega) W)
  have hly := cutL_length (insS (mS l) (mA l n) (plainL s))
  have hlp := cutL_length (plainL s)
  have hw11 : IntKind.i64.wrap (((cutL (mS l)).length : Int) + ((cutL (plainL s)).length : Int)) = ((cutL (mS l)).length : Int) + ((cutL (plainL s)).length : Int) := IntWalk.i64_in _ (by omega)
  have hce : (((cutL (insS (mS l) (mA l n) (plainL s))).length : Int) == ((cutL (mS l)).length : Int) + ((cutL (plainL s)).length : Int)) = true := by rw [beq_iff_eq]; omega
  have HBk := Lib.hid (fun W h => cutT_calls (insS (mS l) (mA l n) (plainL s)) ((insA (mS l) (mA l n) (plainL s)) : Int) (mA l n : Int) ((insA (mS l) (mA l n) (plainL s)) : Int) (by omega) W h)
  rw [hyr.make.1, hyr.make.2, back_ins hrt (plain_P s) h6 hA hc] at HBk
  have hw5 : IntKind.i64.wrap ((mA l n : Int) + ((plainL s).length : Int)) = (mA l n : Int) + ((plainL s).length : Int) := IntWalk.i64_in _ (by have := hrt.2.2.le; omega)
  have hae : (((insA (mS l) (mA l n) (plainL s)) : Int) == (mA l n : Int) + ((plainL s).length : Int)) = true := by rw [beq_iff_eq]; omega
  have hszp := bs_size (plainL s)
  have Hsp := Lib.hid hsp
  have K1 := Lib.hid k1
  clear HF hsp b0 b1 k1 hrt hmm hyr hzr ig il ie hyl hzl h6 hA hc
  generalize insA (cutR (mS l) (mA l n) (mA l n) (backL (mS l) to)).1 (cutR (mS l) (mA l n) (mA l n) (backL (mS l) to)).2.1 (cutR (mS l) (mA l n) (mA l n) (backL (mS l) to)).2.2 = wa at *
  generalize insS (cutR (mS l) (mA l n) (mA l n) (backL (mS l) to)).1 (cutR (mS l) (mA l n) (mA l n) (backL (mS l) to)).2.1 (cutR (mS l) (mA l n) (mA l n) (backL (mS l) to)).2.2 = ws at *
  generalize (cutL (cutR (mS l) (mA l n) (mA l n) (backL (mS l) to)).1).length = nz at *
  generalize (cutL (cutR (mS l) (mA l n) (mA l n) (backL (mS l) to)).2.2).length = ng at *
  generalize (cutR (mS l) (mA l n) (mA l n) (backL (mS l) to)).1 = zs at *
  generalize (cutR (mS l) (mA l n) (mA l n) (backL (mS l) to)).2.1 = za at *
  generalize (cutR (mS l) (mA l n) (mA l n) (backL (mS l) to)).2.2 = zg at *
  generalize (cutL (insS (mS l) (mA l n) (plainL s))).length = ny at *
  generalize (cutL (plainL s)).length = np at *
  generalize (cutL (mS l)).length = nm at *
  generalize (insA (mS l) (mA l n) (plainL s)) = ya at *
  generalize (insS (mS l) (mA l n) (plainL s)) = ys at *
  generalize plainL s = p at *
  generalize mA l n = a at *
  generalize mS l = m at *
  go_enter Tryd.func7, Tryd.ntmps7
  go_wp2_with fail
  refine HFew.out.mono ?_
  rintro e w0 ⟨rfl, rfl⟩
  go_wp2_with fail
  refine (HM.out _ (spans_below Hsp.out K1.out)).mono ?_
  rintro e wx ⟨rfl, hbx⟩
  have kx := K1.out.trans (hbx.mono K1.out.size)
  have x2 := Bx.new wx 25 (.string (bs m)) (.int .i64 (a : Int))
  have K2 := Lib.hid (kx.alloc kx.size (.cells #[.string (bs m), .int .i64 (a : Int)] 25))
  have e0 := x2.c0
  have e1 := x2.c1
  have X2 := Lib.hid x2
  clear hbx kx x2 c0 c1 d0 d1
  go_wp2_with fail
  refine (HI.out _ (spans_below Hsp.out K2.out)).mono ?_
  rintro e wy ⟨rfl, hby⟩
  have ky := K2.out.trans (hby.mono K2.out.size)
  have k5a := ky.alloc ky.size (.cells #[.string (bs ys), .int .i64 (ya : Int)] 25)
  have x5a := (X2.out.below hby).alloc (.cells #[.string (bs ys), .int .i64 (ya : Int)] 25)
  have y5a := Bx.new wy 25 (.string (bs ys)) (.int .i64 (ya : Int))
  have k5 := k5a.drew
  have x5 := x5a.drew
  have y5 := y5a.drew
  clear hby ky e0 e1 k5a x5a y5a
  go_wp2_with fail
  refine wp_region_held_drew (S := (fun w' => (w'.cell? ⟨wx.heap.size, 0, none⟩ = some (.string (bs m)) ∧ w'.cell? ⟨wx.heap.size, 1, none⟩ = some (.int .i64 (a : Int))) ∧ (w'.cell? ⟨wy.heap.size, 0, none⟩ = some (.string (bs ys)) ∧ w'.cell? ⟨wy.heap.size, 1, none⟩ = some (.int .i64 (ya : Int))))) (by kernel_rfl) ⟨⟨x5.c0, x5.c1⟩, ⟨y5.c0, y5.c1⟩⟩ (fun hHeld => ?_)
  refine wpAnyH_take (i := 0) (oi := ⟨some 34, _, _, _, _, _⟩) (v := ?_) rfl (by kernel_rfl) (by kernel_rfl) (by kernel_rfl) (fun _ _ _ h => h) (Or.inl ⟨by kernel_rfl, ?hy0⟩) (by assumption) ?_
  case hy0 => (intro w' hSw; (try dsimp only at hSw); go_simp; try with_reducible rfl)
  simp only [Act.put, List.setIfInBounds_toArray, List.set_cons_zero, List.set_cons_succ]
  refine wpAnyH_take (i := 1) (oi := ⟨some 35, _, _, _, _, _⟩) (v := ?_) rfl (by kernel_rfl) (by kernel_rfl) (by kernel_rfl) (fun _ _ _ h => h) (Or.inl ⟨by kernel_rfl, ?hy1⟩) (by assumption) ?_
  case hy1 => (intro w' hSw; (try dsimp only at hSw); go_simp; try with_reducible rfl)
  simp only [Act.put, List.setIfInBounds_toArray, List.set_cons_zero, List.set_cons_succ]
  refine wpAnyH_take (i := 2) (oi := ⟨some 36, _, _, _, _, _⟩) (v := ?_) rfl (by kernel_rfl) (by kernel_rfl) (by kernel_rfl) (fun _ _ _ h => h) (Or.inl ⟨by kernel_rfl, ?hy2⟩) (by assumption) ?_
  case hy2 => (intro w' hSw; (try dsimp only at hSw); go_simp; try with_reducible rfl)
  simp only [Act.put, List.setIfInBounds_toArray, List.set_cons_zero, List.set_cons_succ]
  refine wpAnyH_take (i := 3) (oi := ⟨some 37, _, _, _, _, _⟩) (v := ?_) rfl (by kernel_rfl) (by kernel_rfl) (by kernel_rfl) (fun _ _ _ h => h) (Or.inl ⟨by kernel_rfl, ?hy3⟩) (by assumption) ?_
  case hy3 => (intro w' hSw; (try dsimp only at hSw); go_simp; try with_reducible rfl)
  simp only [Act.put, List.setIfInBounds_toArray, List.set_cons_zero, List.set_cons_succ]
  refine wpAnyH_take (i := 4) (oi := ⟨some 38, _, _, _, _, _⟩) (v := ?_) rfl (by kernel_rfl) (by kernel_rfl) (by kernel_rfl) (fun _ _ _ h => h) (Or.inl ⟨by kernel_rfl, ?hy4⟩) (by assumption) ?_
  case hy4 => (intro w' hSw; (try dsimp only at hSw); go_simp; try with_reducible rfl)
  simp only [Act.put, List.setIfInBounds_toArray, List.set_cons_zero, List.set_cons_succ]
  refine wpAnyH_take (i := 5) (oi := ⟨some 39, _, _, _, _, _⟩) (v := ?_) rfl (by kernel_rfl) (by kernel_rfl) (by kernel_rfl) (fun _ _ _ h => h) (Or.inl ⟨by kernel_rfl, ?hy5⟩) (by assumption) ?_
  case hy5 => (intro w' hSw; (try dsimp only at hSw); go_simp; try with_reducible rfl)
  simp only [Act.put, List.setIfInBounds_toArray, List.set_cons_zero, List.set_cons_succ]
  refine wpAnyH_take (i := 6) (oi := ⟨some 40, _, _, _, _, _⟩) (v := ?_) rfl (by kernel_rfl) (by kernel_rfl) (by kernel_rfl) (fun _ _ _ h => h) (Or.inl ⟨by kernel_rfl, ?hy6⟩) (by assumption) ?_
  case hy6 => (intro w' hSw; (try dsimp only at hSw); go_simp; try with_reducible rfl)
  simp only [Act.put, List.setIfInBounds_toArray, List.set_cons_zero, List.set_cons_succ]
  refine wpAnyH_take (i := 7) (oi := ⟨some 41, _, _, _, _, _⟩) (v := ?_) rfl (by kernel_rfl) (by kernel_rfl) (by kernel_rfl) (fun _ _ _ h => h) (Or.inl ⟨by kernel_rfl, ?hy7⟩) (by assumption) ?_
  case hy7 => (intro w' hSw; (try dsimp only at hSw); go_simp; try with_reducible rfl)
  simp only [Act.put, List.setIfInBounds_toArray, List.set_cons_zero, List.set_cons_succ]
  refine wpAnyH_ready (rs := [8]) (by kernel_rfl) (by simp) ?_
  refine AllReadyH.cons (o := ⟨some 42, _, _, _, _, _⟩) rfl (fun K hK => ?_) AllReadyH.nil
  (rw [if_pos (by kernel_rfl)])
  go_simp
  (refine (HPl.out _).mono ?_; rintro e w6 ⟨rfl, hb6⟩; have k6 := k5.trans (hb6.mono k5.size); have x6 := x5.below hb6; have y6 := y5.below hb6)
  refine hK.out _ _ ⟨⟨x6.c0, x6.c1⟩, ⟨y6.c0, y6.c1⟩⟩ (fun hHeld => ?_)
  clear hK K
  refine wpAnyH_take (i := 9) (oi := ⟨some 43, _, _, _, _, _⟩) (v := ?_) rfl (by kernel_rfl) (by kernel_rfl) (by kernel_rfl) (fun _ _ _ h => h) (Or.inl ⟨by kernel_rfl, ?hy9⟩) (by assumption) ?_
  case hy9 => (intro w' hSw; (try dsimp only at hSw); go_simp; try with_reducible rfl)
  simp only [Act.put, List.setIfInBounds_toArray, List.set_cons_zero, List.set_cons_succ]
  refine wpAnyH_take (i := 10) (oi := ⟨some 44, _, _, _, _, _⟩) (v := ?_) rfl (by kernel_rfl) (by kernel_rfl) (by kernel_rfl) (fun _ _ _ h => h) (Or.inl ⟨by kernel_rfl, ?hy10⟩) (by assumption) ?_
  case hy10 => (intro w' hSw; (try dsimp only at hSw); go_simp; try with_reducible rfl)
  simp only [Act.put, List.setIfInBounds_toArray, List.set_cons_zero, List.set_cons_succ]
  refine wpAnyH_take (i := 11) (oi := ⟨some 45, _, _, _, _, _⟩) (v := ?_) rfl (by kernel_rfl) (by kernel_rfl) (by kernel_rfl) (fun _ _ _ h => h) (Or.inl ⟨by kernel_rfl, ?hy11⟩) (by assumption) ?_
  case hy11 => (intro w' hSw; (try dsimp only at hSw); go_simp; try with_reducible rfl)
  simp only [Act.put, List.setIfInBounds_toArray, List.set_cons_zero, List.set_cons_succ]
  refine wpAnyH_take (i := 12) (oi := ⟨some 46, _, _, _, _, _⟩) (v := ?_) rfl (by kernel_rfl) (by kernel_rfl) (by kernel_rfl) (fun _ _ _ h => h) (Or.inl ⟨by kernel_rfl, ?hy12⟩) (by assumption) ?_
  case hy12 => (intro w' hSw; (try dsimp only at hSw); go_simp; try with_reducible rfl)
  simp only [Act.put, List.setIfInBounds_toArray, List.set_cons_zero, List.set_cons_succ]
  refine wpAnyH_take (i := 13) (oi := ⟨some 47, _, _, _, _, _⟩) (v := ?_) rfl (by kernel_rfl) (by kernel_rfl) (by kernel_rfl) (fun _ _ _ h => h) (Or.inl ⟨by kernel_rfl, ?hy13⟩) (by assumption) ?_
  case hy13 => (intro w' hSw; (try dsimp only at hSw); go_simp; try with_reducible rfl)
  simp only [Act.put, List.setIfInBounds_toArray, List.set_cons_zero, List.set_cons_succ]
  refine wpAnyH_take (i := 14) (oi := ⟨some 48, _, _, _, _, _⟩) (v := ?_) rfl (by kernel_rfl) (by kernel_rfl) (by kernel_rfl) (fun _ _ _ h => h) (Or.inl ⟨by kernel_rfl, ?hy14⟩) (by assumption) ?_
  case hy14 => (intro w' hSw; (try dsimp only at hSw); go_simp; try with_reducible rfl)
  simp only [Act.put, List.setIfInBounds_toArray, List.set_cons_zero, List.set_cons_succ]
  refine wpAnyH_take (i := 15) (oi := ⟨some 49, _, _, _, _, _⟩) (v := ?_) rfl (by kernel_rfl) (by kernel_rfl) (by kernel_rfl) (fun _ _ _ h => h) (Or.inl ⟨by kernel_rfl, ?hy15⟩) (by assumption) ?_
  case hy15 => (intro w' hSw; (try dsimp only at hSw); go_simp; try with_reducible rfl)
  simp only [Act.put, List.setIfInBounds_toArray, List.set_cons_zero, List.set_cons_succ]
  refine wpAnyH_take (i := 18) (oi := ⟨some 52, _, _, _, _, _⟩) (v := ?_) rfl (by kernel_rfl) (by kernel_rfl) (by kernel_rfl) (fun _ _ _ h => h) (Or.inl ⟨by kernel_rfl, ?hy18⟩) (by assumption) ?_
  case hy18 => (intro w' hSw; (try dsimp only at hSw); go_simp; try with_reducible rfl)
  simp only [Act.put, List.setIfInBounds_toArray, List.set_cons_zero, List.set_cons_succ]
  refine wpAnyH_take (i := 19) (oi := ⟨some 53, _, _, _, _, _⟩) (v := ?_) rfl (by kernel_rfl) (by kernel_rfl) (by kernel_rfl) (fun _ _ _ h => h) (Or.inl ⟨by kernel_rfl, ?hy19⟩) (by assumption) ?_
  case hy19 => (intro w' hSw; (try dsimp only at hSw); go_simp; try with_reducible rfl)
  simp only [Act.put, List.setIfInBounds_toArray, List.set_cons_zero, List.set_cons_succ]
  refine wpAnyH_take (i := 22) (oi := ⟨some 56, _, _, _, _, _⟩) (v := ?_) rfl (by kernel_rfl) (by kernel_rfl) (by kernel_rfl) (fun _ _ _ h => h) (Or.inl ⟨by kernel_rfl, ?hy22⟩) (by assumption) ?_
  case hy22 => (intro w' hSw; (try dsimp only at hSw); go_simp; try with_reducible rfl)
  simp only [Act.put, List.setIfInBounds_toArray, List.set_cons_zero, List.set_cons_succ]
  refine wpAnyH_ready (rs := [16]) (by kernel_rfl) (by simp) ?_
  refine AllReadyH.cons (o := ⟨some 50, _, _, _, _, _⟩) rfl (fun K hK => ?_) AllReadyH.nil
  (rw [if_pos (by kernel_rfl)])
  go_simp
  (refine (HCy.out _).mono ?_; rintro e w7 ⟨A7, c7, rfl, _, hb7⟩; have k7 := k6.trans (hb7.mono k6.size); have x7 := x6.below hb7; have y7 := y6.below hb7)
  refine hK.out _ _ ⟨⟨x7.c0, x7.c1⟩, ⟨y7.c0, y7.c1⟩⟩ (fun hHeld => ?_)
  clear hK K
  refine wpAnyH_take (i := 17) (oi := ⟨some 51, _, _, _, _, _⟩) (v := ?_) rfl (by kernel_rfl) (by kernel_rfl) (by kernel_rfl) (fun _ _ _ h => h) (Or.inl ⟨by kernel_rfl, ?hy17⟩) (by assumption) ?_
  case hy17 => (intro w' hSw; (try dsimp only at hSw); go_simp; try with_reducible rfl)
  simp only [Act.put, List.setIfInBounds_toArray, List.set_cons_zero, List.set_cons_succ]
  refine wpAnyH_ready (rs := [20]) (by kernel_rfl) (by simp) ?_
  refine AllReadyH.cons (o := ⟨some 54, _, _, _, _, _⟩) rfl (fun K hK => ?_) AllReadyH.nil
  (rw [if_pos (by kernel_rfl)])
  go_simp
  (refine (HCm.out _).mono ?_; rintro e w8 ⟨A8, c8, rfl, _, hb8⟩; have k8 := k7.trans (hb8.mono k7.size); have x8 := x7.below hb8; have y8 := y7.below hb8)
  refine hK.out _ _ ⟨⟨x8.c0, x8.c1⟩, ⟨y8.c0, y8.c1⟩⟩ (fun hHeld => ?_)
  clear hK K
  refine wpAnyH_take (i := 21) (oi := ⟨some 55, _, _, _, _, _⟩) (v := ?_) rfl (by kernel_rfl) (by kernel_rfl) (by kernel_rfl) (fun _ _ _ h => h) (Or.inl ⟨by kernel_rfl, ?hy21⟩) (by assumption) ?_
  case hy21 => (intro w' hSw; (try dsimp only at hSw); go_simp; try with_reducible rfl)
  simp only [Act.put, List.setIfInBounds_toArray, List.set_cons_zero, List.set_cons_succ]
  refine wpAnyH_ready (rs := [23]) (by kernel_rfl) (by simp) ?_
  refine AllReadyH.cons (o := ⟨some 57, _, _, _, _, _⟩) rfl (fun K hK => ?_) AllReadyH.nil
  (rw [if_pos (by kernel_rfl)])
  go_simp
  (refine (HPl.out _).mono ?_; rintro e w9 ⟨rfl, hb9⟩; have k9 := k8.trans (hb9.mono k8.size); have x9 := x8.below hb9; have y9 := y8.below hb9)
  refine hK.out _ _ ⟨⟨x9.c0, x9.c1⟩, ⟨y9.c0, y9.c1⟩⟩ (fun hHeld => ?_)
  clear hK K
  refine wpAnyH_ready (rs := [24]) (by kernel_rfl) (by simp) ?_
  refine AllReadyH.cons (o := ⟨some 58, _, _, _, _, _⟩) rfl (fun K hK => ?_) AllReadyH.nil
  (rw [if_pos (by kernel_rfl)])
  go_simp
  (refine (HCp.out _).mono ?_; rintro e w10 ⟨A10, c10, rfl, _, hb10⟩; have k10 := k9.trans (hb10.mono k9.size); have x10 := x9.below hb10; have y10 := y9.below hb10)
  refine hK.out _ _ ⟨⟨x10.c0, x10.c1⟩, ⟨y10.c0, y10.c1⟩⟩ (fun hHeld => ?_)
  clear hK K
  refine wpAnyH_take (i := 25) (oi := ⟨some 59, _, _, _, _, _⟩) (v := ?_) rfl (by kernel_rfl) (by kernel_rfl) (by kernel_rfl) (fun _ _ _ h => h) (Or.inl ⟨by kernel_rfl, ?hy25⟩) (by assumption) ?_
  case hy25 => (intro w' hSw; (try dsimp only at hSw); go_simp; try with_reducible rfl)
  simp only [Act.put, List.setIfInBounds_toArray, List.set_cons_zero, List.set_cons_succ]
  refine wpAnyH_take (i := 26) (oi := ⟨some 60, _, _, _, _, _⟩) (v := ?_) rfl (by kernel_rfl) (by kernel_rfl) (by kernel_rfl) (fun _ _ _ h => h) (Or.inl ⟨by kernel_rfl, ?hy26⟩) (by assumption) ?_
  case hy26 => (intro w' hSw; (try dsimp only at hSw); go_simp; try with_reducible rfl)
  simp only [Act.put, List.setIfInBounds_toArray, List.set_cons_zero, List.set_cons_succ]
  refine wpAnyH_take (i := 27) (oi := ⟨some 61, _, _, _, _, _⟩) (v := ?_) rfl (by kernel_rfl) (by kernel_rfl) (by kernel_rfl) (fun _ _ _ h => h) (Or.inl ⟨by kernel_rfl, ?hy27⟩) (by assumption) ?_
  case hy27 => (intro w' hSw; (try dsimp only at hSw); go_simp; try with_reducible rfl)
  simp only [Act.put, List.setIfInBounds_toArray, List.set_cons_zero, List.set_cons_succ]
  refine wpAnyH_take (i := 28) (oi := ⟨some 62, _, _, _, _, _⟩) (v := ?_) rfl (by kernel_rfl) (by kernel_rfl) (by kernel_rfl) (fun _ _ _ h => h) (Or.inl ⟨by kernel_rfl, ?hy28⟩) (by assumption) ?_
  case hy28 => (intro w' hSw; (try dsimp only at hSw); go_simp; try with_reducible rfl)
  simp only [Act.put, List.setIfInBounds_toArray, List.set_cons_zero, List.set_cons_succ]
  refine wpAnyH_done (by kernel_rfl) ?_ _
  have KX0 := Lib.hid k10
  have XX0 := Lib.hid x10
  have YY0 := Lib.hid y10
  have xx0 := x10.c0
  have xx1 := x10.c1
  have yy0 := y10.c0
  have yy1 := y10.c1
  clear hHeld
  go_wp2_with fail
  refine (HBk.out _ (spans_below Hsp.out KX0.out)).mono ?_
  rintro e wc ⟨rfl, hbc⟩
  have kc := KX0.out.trans (hbc.mono KX0.out.size)
  have KC := Lib.hid (kc.alloc kc.size (.cells #[.string (bs m), .int .i64 (a : Int)] 25))
  have xc := (XX0.out.below hbc).alloc (.cells #[.string (bs m), .int .i64 (a : Int)] 25)
  have yc := Bx.new wc 25 (.string (bs m)) (.int .i64 (a : Int))
  have xc0 := xc.c0
  have xc1 := xc.c1
  have yc0 := yc.c0
  have yc1 := yc.c1
  have XC := Lib.hid xc
  clear hbc kc xc yc xx0 xx1 yy0 yy1
  go_wp2_with fail
  refine (HPl.out _).mono ?_
  rintro e wd ⟨rfl, hbd⟩
  have KX := Lib.hid (KC.out.trans (hbd.mono KC.out.size))
  have xd := XC.out.below hbd
  have xd0 := xd.c0
  have xd1 := xd.c1
  have XX := Lib.hid xd
  clear hbd xd xc0 xc1 yc0 yc1
  go_wp2_with fail
  refine (HZ.out _ (spans_below Hsp.out KX.out)).mono ?_
  rintro e wz ⟨rfl, hbz⟩
  have k50 := KX.out.trans (hbz.mono KX.out.size)
  have k51 := (k50.alloc k50.size (.cells #[.string (bs zs), .int .i64 (za : Int)] 25)).drew
  have x51 := ((XX.out.below hbz).alloc (.cells #[.string (bs zs), .int .i64 (za : Int)] 25)).drew
  have z51 := (Bx.new wz 25 (.string (bs zs)) (.int .i64 (za : Int))).drew
  clear hbz k50
  go_wp2_with fail
  refine wp_region_held_drew (S := (fun w' => (w'.cell? ⟨wx.heap.size, 0, none⟩ = some (.string (bs m)) ∧ w'.cell? ⟨wx.heap.size, 1, none⟩ = some (.int .i64 (a : Int))) ∧ (w'.cell? ⟨wz.heap.size, 0, none⟩ = some (.string (bs zs)) ∧ w'.cell? ⟨wz.heap.size, 1, none⟩ = some (.int .i64 (za : Int))))) (by kernel_rfl) ⟨⟨x51.c0, x51.c1⟩, ⟨z51.c0, z51.c1⟩⟩ (fun hHeld => ?_)
  refine wpAnyH_take (i := 0) (oi := ⟨some 89, _, _, _, _, _⟩) (v := ?_) rfl (by kernel_rfl) (by kernel_rfl) (by kernel_rfl) (fun _ _ _ h => h) (Or.inl ⟨by kernel_rfl, ?hy0⟩) (by assumption) ?_
  case hy0 => (intro w' hSw; (try dsimp only at hSw); go_simp; try with_reducible rfl)
  simp only [Act.put, List.setIfInBounds_toArray, List.set_cons_zero, List.set_cons_succ]
  refine wpAnyH_take (i := 1) (oi := ⟨some 90, _, _, _, _, _⟩) (v := ?_) rfl (by kernel_rfl) (by kernel_rfl) (by kernel_rfl) (fun _ _ _ h => h) (Or.inl ⟨by kernel_rfl, ?hy1⟩) (by assumption) ?_
  case hy1 => (intro w' hSw; (try dsimp only at hSw); go_simp; try with_reducible rfl)
  simp only [Act.put, List.setIfInBounds_toArray, List.set_cons_zero, List.set_cons_succ]
  refine wpAnyH_take (i := 4) (oi := ⟨some 93, _, _, _, _, _⟩) (v := ?_) rfl (by kernel_rfl) (by kernel_rfl) (by kernel_rfl) (fun _ _ _ h => h) (Or.inl ⟨by kernel_rfl, ?hy4⟩) (by assumption) ?_
  case hy4 => (intro w' hSw; (try dsimp only at hSw); go_simp; try with_reducible rfl)
  simp only [Act.put, List.setIfInBounds_toArray, List.set_cons_zero, List.set_cons_succ]
  refine wpAnyH_take (i := 5) (oi := ⟨some 94, _, _, _, _, _⟩) (v := ?_) rfl (by kernel_rfl) (by kernel_rfl) (by kernel_rfl) (fun _ _ _ h => h) (Or.inl ⟨by kernel_rfl, ?hy5⟩) (by assumption) ?_
  case hy5 => (intro w' hSw; (try dsimp only at hSw); go_simp; try with_reducible rfl)
  simp only [Act.put, List.setIfInBounds_toArray, List.set_cons_zero, List.set_cons_succ]
  refine wpAnyH_take (i := 8) (oi := ⟨some 97, _, _, _, _, _⟩) (v := ?_) rfl (by kernel_rfl) (by kernel_rfl) (by kernel_rfl) (fun _ _ _ h => h) (Or.inl ⟨by kernel_rfl, ?hy8⟩) (by assumption) ?_
  case hy8 => (intro w' hSw; (try dsimp only at hSw); go_simp; try with_reducible rfl)
  simp only [Act.put, List.setIfInBounds_toArray, List.set_cons_zero, List.set_cons_succ]
  refine wpAnyH_ready (rs := [2]) (by kernel_rfl) (by simp) ?_
  refine AllReadyH.cons (o := ⟨some 91, _, _, _, _, _⟩) rfl (fun K hK => ?_) AllReadyH.nil
  (rw [if_pos (by kernel_rfl)])
  go_simp
  (refine (HCz.out _).mono ?_; rintro e w52 ⟨A52, c52, rfl, _, hb52⟩; have k52 := k51.trans (hb52.mono k51.size); have x52 := x51.below hb52; have z52 := z51.below hb52)
  refine hK.out _ _ ⟨⟨x52.c0, x52.c1⟩, ⟨z52.c0, z52.c1⟩⟩ (fun hHeld => ?_)
  clear hK K
  refine wpAnyH_take (i := 3) (oi := ⟨some 92, _, _, _, _, _⟩) (v := ?_) rfl (by kernel_rfl) (by kernel_rfl) (by kernel_rfl) (fun _ _ _ h => h) (Or.inl ⟨by kernel_rfl, ?hy3⟩) (by assumption) ?_
  case hy3 => (intro w' hSw; (try dsimp only at hSw); go_simp; try with_reducible rfl)
  simp only [Act.put, List.setIfInBounds_toArray, List.set_cons_zero, List.set_cons_succ]
  refine wpAnyH_ready (rs := [6]) (by kernel_rfl) (by simp) ?_
  refine AllReadyH.cons (o := ⟨some 95, _, _, _, _, _⟩) rfl (fun K hK => ?_) AllReadyH.nil
  (rw [if_pos (by kernel_rfl)])
  go_simp
  (refine (HCm.out _).mono ?_; rintro e w53 ⟨A53, c53, rfl, _, hb53⟩; have k53 := k52.trans (hb53.mono k52.size); have x53 := x52.below hb53; have z53 := z52.below hb53)
  refine hK.out _ _ ⟨⟨x53.c0, x53.c1⟩, ⟨z53.c0, z53.c1⟩⟩ (fun hHeld => ?_)
  clear hK K
  refine wpAnyH_take (i := 7) (oi := ⟨some 96, _, _, _, _, _⟩) (v := ?_) rfl (by kernel_rfl) (by kernel_rfl) (by kernel_rfl) (fun _ _ _ h => h) (Or.inl ⟨by kernel_rfl, ?hy7⟩) (by assumption) ?_
  case hy7 => (intro w' hSw; (try dsimp only at hSw); go_simp; try with_reducible rfl)
  simp only [Act.put, List.setIfInBounds_toArray, List.set_cons_zero, List.set_cons_succ]
  refine wpAnyH_ready (rs := [9]) (by kernel_rfl) (by simp) ?_
  refine AllReadyH.cons (o := ⟨some 98, _, _, _, _, _⟩) rfl (fun K hK => ?_) AllReadyH.nil
  (rw [if_pos (by kernel_rfl)])
  go_simp
  (refine (HCg.out _).mono ?_; rintro e w54 ⟨A54, c54, rfl, _, hb54⟩; have k54 := k53.trans (hb54.mono k53.size); have x54 := x53.below hb54; have z54 := z53.below hb54)
  refine hK.out _ _ ⟨⟨x54.c0, x54.c1⟩, ⟨z54.c0, z54.c1⟩⟩ (fun hHeld => ?_)
  clear hK K
  refine wpAnyH_take (i := 10) (oi := ⟨some 99, _, _, _, _, _⟩) (v := ?_) rfl (by kernel_rfl) (by kernel_rfl) (by kernel_rfl) (fun _ _ _ h => h) (Or.inl ⟨by kernel_rfl, ?hy10⟩) (by assumption) ?_
  case hy10 => (intro w' hSw; (try dsimp only at hSw); go_simp; try with_reducible rfl)
  simp only [Act.put, List.setIfInBounds_toArray, List.set_cons_zero, List.set_cons_succ]
  refine wpAnyH_take (i := 11) (oi := ⟨some 100, _, _, _, _, _⟩) (v := ?_) rfl (by kernel_rfl) (by kernel_rfl) (by kernel_rfl) (fun _ _ _ h => h) (Or.inl ⟨by kernel_rfl, ?hy11⟩) (by assumption) ?_
  case hy11 => (intro w' hSw; (try dsimp only at hSw); go_simp; try with_reducible rfl)
  simp only [Act.put, List.setIfInBounds_toArray, List.set_cons_zero, List.set_cons_succ]
  refine wpAnyH_take (i := 12) (oi := ⟨some 101, _, _, _, _, _⟩) (v := ?_) rfl (by kernel_rfl) (by kernel_rfl) (by kernel_rfl) (fun _ _ _ h => h) (Or.inl ⟨by kernel_rfl, ?hy12⟩) (by assumption) ?_
  case hy12 => (intro w' hSw; (try dsimp only at hSw); go_simp; try with_reducible rfl)
  simp only [Act.put, List.setIfInBounds_toArray, List.set_cons_zero, List.set_cons_succ]
  refine wpAnyH_done (by kernel_rfl) ?_ _
  have KQ := Lib.hid k54
  have XQ := Lib.hid x54
  have ZQ := Lib.hid z54
  clear hHeld
  cases hqq : ((nz : Int) != (nm : Int) - (ng : Int)) with
  | true =>
    go_wp2_with fail
    refine (talive_calls _ (spans_below Hsp.out KQ.out)).mono ?_
    rintro e wA ⟨rfl, hbA⟩
    have kA := KQ.out.trans (hbA.mono KQ.out.size)
    go_wp2
    go_ret
    exact ⟨rfl, kA⟩
  | false =>
    have zq0 := ZQ.out.c0
    have zq1 := ZQ.out.c1
    go_wp2_with fail
    refine (HW.out _ (spans_below Hsp.out KQ.out)).mono ?_
    rintro e wv ⟨rfl, hbv⟩
    have kv := KQ.out.trans (hbv.mono KQ.out.size)
    have KV := Lib.hid (kv.alloc kv.size (.cells #[.string (bs ws), .int .i64 (wa : Int)] 25))
    have XV := Lib.hid ((XQ.out.below hbv).alloc (.cells #[.string (bs ws), .int .i64 (wa : Int)] 25))
    have ZV := Lib.hid ((ZQ.out.below hbv).alloc (.cells #[.string (bs ws), .int .i64 (wa : Int)] 25))
    have VV := Lib.hid (Bx.new wv 25 (.string (bs ws)) (.int .i64 (wa : Int)))
    clear hbv kv zq0 zq1
    go_wp2_with fail
    refine (talive_calls _ (spans_below Hsp.out KV.out)).mono ?_
    rintro e wA ⟨rfl, hbA⟩
    have KA := Lib.hid (KV.out.trans (hbA.mono KV.out.size))
    have xa := XV.out.below hbA
    have za' := ZV.out.below hbA
    have va := VV.out.below hbA
    have xa0 := xa.c0
    have xa1 := xa.c1
    have zb0 := za'.c0
    have zb1 := za'.c1
    have va0 := va.c0
    have va1 := va.c1
    clear hbA xa za' va
    by_cases hza : za = a
    · have hne : ((za : Int) != (a : Int)) = false := by rw [hza]; simp
      have hws := Hws.out hza
      subst hws
      go_wp2
      go_ret
      exact ⟨rfl, KA.out⟩
    · have hne : ((za : Int) != (a : Int)) = true := by rw [bne_iff_ne]; omega
      go_wp2
      go_ret
      exact ⟨rfl, KA.out⟩

theorem lback_calls (s t : ByteArray) (n to : Int) (w : World) (hs : s.size + t.size ≤ 9223372036854775807) (hsp : Spans w) :
    Calls Tryd.prog 7 #[.agg #[.string s, .int .i64 n], .string t, .int .i64 to] w fun e w' => e = .returned (.bool true) ∧ Below w.heap.size w w' := by
  by_cases h : 1500 < s.size + t.size
  · exact lback_big s t n to w hs h hsp
  · have hb : s.data.toList.length + t.data.toList.length ≤ 1500 := by rw [← Lib.size_eq, ← Lib.size_eq]; omega
    by_cases h6 : (mS s.data.toList).length + (plainL t.data.toList).length ≤ 600
    · by_cases hA : insA (mS s.data.toList) (mA s.data.toList n) (plainL t.data.toList) = mA s.data.toList n + (plainL t.data.toList).length
      · by_cases hc : (cutL (insS (mS s.data.toList) (mA s.data.toList n) (plainL t.data.toList))).length = (cutL (mS s.data.toList)).length + (cutL (plainL t.data.toList)).length
        · exact lback_o s.data.toList t.data.toList n to w hb h6 hA hc hsp
        · exact lback_c s.data.toList t.data.toList n to w hb h6 hA hc hsp
      · exact lback_a s.data.toList t.data.toList n to w hb h6 hA hsp
    · exact lback_n s.data.toList t.data.toList n to w hb (by omega) hsp
end Go.Proofs.YtifdgaklchihbaaDoor
