/-
  Layer 7 and what it stands on, part 21 (TabGrow).
-/
import Derived.Test.YthifdojbbbnpaaaDoorPa13
import Derived.Test.YthifdojbbbnpaaaDoorPa20
import Derived.Laws.StructEq
namespace Go.Proofs.YthifdojbbbnpaaaDoor
section
open Go Go.RowKit
set_option maxRecDepth 100000
theorem drewB0 {w : World} : Below w.heap.size w w.drew := (Below.refl _ w).drew
theorem tneq (x y : Bf) (W : World) : (binOp .neq 44 (.agg #[.string (bs x.1), .int .i64 (x.2 : Int)]) (.agg #[.string (bs y.1), .int .i64 (y.2 : Int)])).run Tryd.prog W = .ok (.bool (decide (x ≠ y))) W := by
  obtain ⟨a, n⟩ := x
  obtain ⟨b, m⟩ := y
  have h1 := Tryd.underlying44
  have h2 := Tryd.underlying9
  have h3 := Tryd.underlying3
  rw [run_neq_struct]
  go_simp
  by_cases e1 : a = b <;> by_cases e2 : n = m <;> simp [e1, e2] <;> omega
theorem cutG_calls (m : List UInt8) (a : Nat) (h : Rt m a) (w : World) (hsp : Spans w) :
    Calls Tryd.prog 27 #[.agg #[.string (bs m), .int .i64 (a : Int)], .int .i64 (frmL (m, a) : Int), .int .i64 (a : Int)] w fun e w' => ∃ z, e = .returned (.tuple #[.agg #[.string (bs (cutG (m, a)).1), .int .i64 ((cutG (m, a)).2 : Int)], .string z]) ∧ Below w.heap.size w w' := by
  refine (cutT_calls m (a : Int) (frmL (m, a) : Int) (a : Int) (by have := h.2.1; omega) w hsp).mono ?_
  rintro e w' ⟨rfl, hb⟩
  rw [h.make.1, h.make.2, h.2.2.back]
  exact ⟨_, rfl, hb⟩
theorem insG_ok (m : List UInt8) (a : Nat) (h : Rt m a) (t : ByteArray) (ht : t.size ≤ 137438953472) (w : World) (hsp : Spans w) (hf : fits (m, a) (plainL (bl t))) :
    Calls Tryd.prog 28 #[.agg #[.string (bs m), .int .i64 (a : Int)], .string t] w fun e w' => e = .returned (.tuple #[.agg #[.string (bs (insB (m, a) (plainL (bl t))).1), .int .i64 ((insB (m, a) (plainL (bl t))).2 : Int)], .int .i64 0]) ∧ Below w.heap.size w w' := by
  have := insert_ok m (bl t) (a : Int) (by have := h.2.1; omega) (by unfold bl; simpa using ht) w hsp (by rw [h.make.1]; exact hf)
  rw [h.make.1, h.make.2, bs_bl] at this
  exact this
theorem insG_no (m : List UInt8) (a : Nat) (h : Rt m a) (t : ByteArray) (ht : t.size ≤ 137438953472) (w : World) (hsp : Spans w) (hf : ¬ fits (m, a) (plainL (bl t))) :
    Calls Tryd.prog 28 #[.agg #[.string (bs m), .int .i64 (a : Int)], .string t] w fun e w' => e = .returned (.tuple #[.agg #[.string (bs m), .int .i64 (a : Int)], .int .i64 30]) ∧ Below w.heap.size w w' := by
  have := insert_no m (bl t) (a : Int) (by have := h.2.1; omega) (by unfold bl; simpa using ht) w hsp (by rw [h.make.1]; unfold fits at hf; dsimp only at hf; omega)
  rw [h.make.1, h.make.2, bs_bl] at this
  exact this
theorem growR_none {l : List PR} {b : Bf} (h : getP l (bs (headL b)) = none) : growR l b = (b, false) := by unfold growR; rw [h]
theorem growR_mid (l : List PR) (b : Bf) (t : ByteArray) (h : getP l (bs (headL b)) = some t) (ha : atBlank b = false) : growR l b = (b, false) := by
  unfold growR
  rw [h]
  dsimp only
  rw [if_neg (by rw [ha]; simp)]
theorem growR_full (l : List PR) (b : Bf) (t : ByteArray) (h : getP l (bs (headL b)) = some t) (hf : ¬ fits (cutG b) (plainL (bl t))) : growR l b = (b, false) := by
  unfold growR
  rw [h]
  dsimp only
  rw [if_neg (fun e => hf e.2)]
theorem growR_now (l : List PR) (b : Bf) (t : ByteArray) (h : getP l (bs (headL b)) = some t) (ha : atBlank b = true) (hf : fits (cutG b) (plainL (bl t))) : growR l b = (insB (cutG b) (plainL (bl t)), decide (insB (cutG b) (plainL (bl t)) ≠ b)) := by
  unfold growR
  rw [h]
  dsimp only
  rw [if_pos ⟨ha, hf⟩]
section
variable (w : World) (O : Nat → Prop) (b : Nat) (l : List PR) (h : TabAt w O b l) (hsp : Spans w)
include h hsp
set_option maxHeartbeats 8000000 in
theorem tgrow_calls (x : List UInt8) (n : Int) (hx : x.length ≤ 137438953472) :
    Calls Tryd.prog 15 #[.pointer (some ⟨b, 0, none⟩), .agg #[.string (bs x), .int .i64 n]] w fun e w' => e = .returned (.tuple #[.agg #[.string (bs (growR l (mS x, mA x n)).1.1), .int .i64 ((growR l (mS x, mA x n)).1.2 : Int)], .bool (growR l (mS x, mA x n)).2]) ∧ Below w.heap.size w w' := by
  obtain ⟨W2, hW2⟩ : ∃ W2, (w.alloc (.cells #[.string (bs x), .int .i64 n] 44)).alloc (.cells #[.string ⟨#[]⟩, .int .i64 0] 44) = W2 := ⟨_, rfl⟩
  have hB2 : Below w.heap.size w W2 := by rw [← hW2]; exact ((Below.refl _ w).alloc (Nat.le_refl _) _).alloc (by rw [World.size_alloc]; omega) _
  have hs2 : W2.heap.size = w.heap.size + 2 := by rw [← hW2, World.size_alloc, World.size_alloc]
  have hb0 : BxA W2 w.heap.size 44 [.string (bs x), .int .i64 n] := by rw [← hW2]; exact (BxA.new w _ _).alloc _
  have hr0 : BxA W2 (w.heap.size + 1) 44 [.string ⟨#[]⟩, .int .i64 0] := by
    rw [← hW2]
    have := BxA.new (w.alloc (.cells #[.string (bs x), .int .i64 n] 44)) 44 [.string ⟨#[]⟩, .int .i64 0]
    rwa [World.size_alloc] at this
  have H := Lib.hid h
  have HS := Lib.hid hsp
  have HM := Lib.hid (fun W hW => make_calls x n hx W hW)
  have hrt := make_rt x n
  have ha := hrt.2.2.le
  have HRt := Lib.hid hrt
  have HN := Lib.hid (@growR_none l (mS x, mA x n))
  have HMid := Lib.hid (growR_mid l (mS x, mA x n))
  have HF := Lib.hid (growR_full l (mS x, mA x n))
  have HNow := Lib.hid (growR_now l (mS x, mA x n))
  generalize growR l (mS x, mA x n) = res at *
  generalize mA x n = a at *
  generalize mS x = m at *
  have k0 := hb0.c 0 rfl
  have k1 := hb0.c 1 rfl
  have HB2 := Lib.hid hB2
  have HB0 := Lib.hid hb0
  have HR0 := Lib.hid hr0
  have Hs2 := Lib.hid hs2
  clear h hsp hrt hB2 hb0 hr0 hs2
  go_enter Tryd.func15, Tryd.ntmps15
  go_wp2_with fail
  refine (HM.out _ (spans_below HS.out HB2.out)).mono ?_
  rintro e w1 ⟨rfl, hb1⟩
  have hx1 := HB0.out.below hb1
  have hr1 := HR0.out.below hb1
  have hB1 := HB2.out.trans (hb1.mono HB2.out.size)
  have e0 := hx1.c 0 rfl
  have e1 := hx1.c 1 rfl
  have f0 := hx1.free 0
  have f1 := hx1.free 1
  obtain ⟨W3, hW3⟩ : ∃ W3, (w1.setCell ⟨w.heap.size, 0, none⟩ (.string (bs m))).setCell ⟨w.heap.size, 1, none⟩ (.int .i64 (a : Int)) = W3 := ⟨_, rfl⟩
  have hx3 : BxA W3 w.heap.size 44 [.string (bs m), .int .i64 (a : Int)] := by rw [← hW3]; exact (hx1.set 0 _).set 1 _
  have hr3 : BxA W3 (w.heap.size + 1) 44 [.string ⟨#[]⟩, .int .i64 0] := by rw [← hW3]; exact (hr1.other (by omega) _).other (by omega) _
  have hB3 : Below w.heap.size w W3 := by rw [← hW3]; exact (hB1.setCell (p := ⟨w.heap.size, 0, none⟩) (Nat.le_refl _) _).setCell (p := ⟨w.heap.size, 1, none⟩) (Nat.le_refl _) _
  have HX3 := Lib.hid hx3
  have HR3 := Lib.hid hr3
  have HB3 := Lib.hid hB3
  have c0 := hx3.c 0 rfl
  have c1 := hx3.c 1 rfl
  have ht := bs_take m a
  have hsz := bs_size m
  clear hx1 hr1 hB1 hb1 hx3 hr3 hB3 HM k0 k1 HB0 HR0 HB2
  go_wp2_with fail
  refine (trimLeft_calls (m.take a) W3).mono ?_
  rintro e w4 ⟨rfl, hb4⟩
  rw [show ((m.take a).dropWhile fun c => c == 32) = headL (m, a) from rfl]
  have hx4 := HX3.out.below hb4
  have HX4 := Lib.hid hx4
  have HR4 := Lib.hid (HR3.out.below hb4)
  have HB4 := Lib.hid (HB3.out.trans (hb4.mono HB3.out.size))
  have hhl := headL_le (m, a) ha
  have hhz := bs_size (headL (m, a))
  have hfr : (a : Int) - ((headL (m, a)).length : Int) = (frmL (m, a) : Int) := by unfold frmL; omega
  have HFr := Lib.hid hfr
  clear hb4 c0 c1 HX3 HR3 HB3 hW3 e0 e1 f0 f1 ht hfr hx4
  go_wp2_with fail
  refine (tget_calls w4 O b l (H.out.below HB4.out) (bs (headL (m, a)))).mono ?_
  rintro e w5 ⟨rfl, hb5⟩
  have hx5 := HX4.out.below hb5
  have HX5 := Lib.hid hx5
  have HR5 := Lib.hid (HR4.out.below hb5)
  have HB5 := Lib.hid (HB4.out.trans (hb5.mono HB4.out.size))
  have c0 := hx5.c 0 rfl
  have c1 := hx5.c 1 rfl
  have r0 := HR5.out.c 0 rfl
  have r1 := HR5.out.c 1 rfl
  have rf0 := HR5.out.free 0
  have rf1 := HR5.out.free 1
  clear hb5 HX4 HR4 HB4 hx5
  cases hg : getP l (bs (headL (m, a))) with
  | none =>
    have HR := Lib.hid (HN.out hg)
    clear hg HN HMid HF HNow
    go_wp2_with fail
    refine bodyPost_ret (results_bx2 rfl _ _ (w.heap.size + 1) (.string (bs m)) (.int .i64 (a : Int)) 44 rfl ((HR5.out.set 0 _).set 1 _) Tryd.underlying44 (sizeBuf _)) rfl ?_
    exact ⟨by rw [HR.out]; rfl, (HB5.out.setCell (p := ⟨w.heap.size + 1, 0, none⟩) (Nat.le_succ _) _).setCell (p := ⟨w.heap.size + 1, 1, none⟩) (Nat.le_succ _) _⟩
  | some t =>
    have Ht : Hid (t.size ≤ 137438953472) := Lib.hid (by
      have := (H.out.small (bs (headL (m, a)), t) ((getP_iff H.out.rising.once).1 hg)).2
      dsimp only at this
      omega)
    have HMid := Lib.hid (HMid.out t hg)
    have HF := Lib.hid (HF.out t hg)
    have HNow := Lib.hid (HNow.out t hg)
    have HE := Lib.hid (ended_calls m a ha w5)
    clear hg HN
    cases hab : atBlank (m, a) with
    | false =>
      have HR := Lib.hid (HMid.out hab)
      rw [hab] at HE
      clear HF HNow HMid hab
      go_wp2_with fail
      refine HE.out.mono ?_
      rintro e w6 ⟨rfl, hb6⟩
      clear c0 c1 r0 r1 rf0 rf1
      have hx6 := HX5.out.below hb6
      have HX6 := Lib.hid hx6
      have HR6 := Lib.hid (HR5.out.below hb6)
      have HB6 := Lib.hid (HB5.out.trans (hb6.mono HB5.out.size))
      have c0 := hx6.c 0 rfl
      have c1 := hx6.c 1 rfl
      have r0 := HR6.out.c 0 rfl
      have r1 := HR6.out.c 1 rfl
      have rf0 := HR6.out.free 0
      have rf1 := HR6.out.free 1
      clear hb6 hx6 HE HX5 HR5 HB5
      go_wp2_with fail
      refine bodyPost_ret (results_bx2 rfl _ _ (w.heap.size + 1) (.string (bs m)) (.int .i64 (a : Int)) 44 rfl ((HR6.out.set 0 _).set 1 _) Tryd.underlying44 (sizeBuf _)) rfl ?_
      exact ⟨by rw [HR.out]; rfl, (HB6.out.setCell (p := ⟨w.heap.size + 1, 0, none⟩) (Nat.le_succ _) _).setCell (p := ⟨w.heap.size + 1, 1, none⟩) (Nat.le_succ _) _⟩
    | true =>
      have HNow := Lib.hid (HNow.out hab)
      rw [hab] at HE
      have HC := Lib.hid (fun W hW => cutG_calls m a HRt.out W hW)
      rw [← HFr.out] at HC
      have hcr := cutG_rt (b := (m, a)) HRt.out
      have HI := Lib.hid (fun W hW => insG_ok (cutG (m, a)).1 (cutG (m, a)).2 hcr t Ht.out W hW)
      have HJ := Lib.hid (fun W hW => insG_no (cutG (m, a)).1 (cutG (m, a)).2 hcr t Ht.out W hW)
      have hcl : (cutG (m, a)).1.length ≤ 600 := hcr.2.1
      have hm6 : m.length ≤ 600 := HRt.out.2.1
      clear hab HMid
      generalize cutG (m, a) = cg at *
      obtain ⟨cs, ca⟩ := cg
      dsimp only at HI HJ HC
      go_wp2_with fail
      refine HE.out.mono ?_
      rintro e w6 ⟨rfl, hb6⟩
      clear c0 c1 r0 r1 rf0 rf1
      have hx6 := HX5.out.below hb6
      have HX6 := Lib.hid hx6
      have HR6 := Lib.hid (HR5.out.below hb6)
      have HB6 := Lib.hid (HB5.out.trans (hb6.mono HB5.out.size))
      have c0 := hx6.c 0 rfl
      have c1 := hx6.c 1 rfl
      have r0 := HR6.out.c 0 rfl
      have r1 := HR6.out.c 1 rfl
      have rf0 := HR6.out.free 0
      have rf1 := HR6.out.free 1
      clear hb6 hx6 HE HX5 HR5 HB5
      go_wp2_with fail
      refine (HC.out w6 (spans_below HS.out HB6.out)).mono ?_
      rintro e w7 ⟨z, rfl, hb7⟩
      clear c0 c1 r0 r1 rf0 rf1
      have hx7 := HX6.out.below hb7
      have HX7 := Lib.hid hx7
      have HR7 := Lib.hid (HR6.out.below hb7)
      have HB7 := Lib.hid (HB6.out.trans (hb7.mono HB6.out.size))
      have c0 := hx7.c 0 rfl
      have c1 := hx7.c 1 rfl
      have r0 := HR7.out.c 0 rfl
      have r1 := HR7.out.c 1 rfl
      have rf0 := HR7.out.free 0
      have rf1 := HR7.out.free 1
      have hq7 := BxA.new w7 44 [.string (bs cs), .int .i64 (ca : Int)]
      have HX8 := Lib.hid (HX7.out.alloc (.cells #[.string (bs cs), .int .i64 (ca : Int)] 44))
      have HR8 := Lib.hid (HR7.out.alloc (.cells #[.string (bs cs), .int .i64 (ca : Int)] 44))
      have HB8 := Lib.hid (HB7.out.alloc HB7.out.size (.cells #[.string (bs cs), .int .i64 (ca : Int)] 44))
      obtain ⟨W8, hW8⟩ : ∃ W8, w7.alloc (.cells #[.string (bs cs), .int .i64 (ca : Int)] 44) = W8 := ⟨_, rfl⟩
      rw [hW8] at hq7 HX8 HR8 HB8
      have d0 := hq7.c 0 rfl
      have d1 := hq7.c 1 rfl
      clear hb7 hx7 HC HX6 HR6 HB6 hq7 hhl hhz hm6 hcl ha hsz
      go_wp2_with fail
      have hsp8 := spans_below HS.out HB8.out
      by_cases hf : fits (cs, ca) (plainL (bl t))
      · have HR := Lib.hid (HNow.out hf)
        have HI := Lib.hid (HI.out W8 hsp8 hf)
        clear hf HJ HF hsp8 HNow
        generalize insB (cs, ca) (plainL (bl t)) = ib at *
        obtain ⟨is, ia⟩ := ib
        refine HI.out.mono ?_
        rintro e w9 ⟨rfl, hb9⟩
        clear c0 c1 r0 r1 rf0 rf1
        have hx9 := HX8.out.below hb9
        have HX9 := Lib.hid hx9
        have HR9 := Lib.hid (HR8.out.below hb9)
        have HB9 := Lib.hid (HB8.out.trans (hb9.mono HB8.out.size))
        have HXa := Lib.hid (HX9.out.alloc (.cells #[.string (bs is), .int .i64 (ia : Int)] 44))
        have HRa := Lib.hid (HR9.out.alloc (.cells #[.string (bs is), .int .i64 (ia : Int)] 44))
        have HBa := Lib.hid (HB9.out.alloc HB9.out.size (.cells #[.string (bs is), .int .i64 (ia : Int)] 44))
        have hqa := BxA.new w9 44 [.string (bs is), .int .i64 (ia : Int)]
        obtain ⟨Wa, hWa⟩ : ∃ Wa, w9.alloc (.cells #[.string (bs is), .int .i64 (ia : Int)] 44) = Wa := ⟨_, rfl⟩
        rw [hWa] at hqa HXa HRa HBa
        have c0 := HXa.out.c 0 rfl
        have c1 := HXa.out.c 1 rfl
        have r0 := HRa.out.c 0 rfl
        have r1 := HRa.out.c 1 rfl
        have rf0 := HRa.out.free 0
        have rf1 := HRa.out.free 1
        have q0 := hqa.c 0 rfl
        have q1 := hqa.c 1 rfl
        have HR9lt := Lib.hid HR9.out.lt
        have HQa := Lib.hid hqa
        clear hb9 hx9 HX9 HR9 HB9 hqa d0 d1 HX8 HR8 HB8 hW8
        clear HI
        have hne := tneq (is, ia) (m, a)
        dsimp only at hne
        have HD : Hid (res = ((is, ia), decide ((is, ia) ≠ (m, a)))) := HR
        clear HR
        generalize decide ((is, ia) ≠ (m, a)) = q at *
        have hn9 : w.heap.size + 1 < w9.heap.size := HR9lt.out
        have HKEEP : Hid ((fun w' => w'.cell? ⟨w.heap.size, 0, none⟩ = some (.string (bs m)) ∧ w'.cell? ⟨w.heap.size, 1, none⟩ = some (.int .i64 (a : Int)) ∧ w'.cell? ⟨w9.heap.size, 0, none⟩ = some (.string (bs is)) ∧ w'.cell? ⟨w9.heap.size, 1, none⟩ = some (.int .i64 (ia : Int))) ((Wa.setCell ⟨w.heap.size + 1, 0, none⟩ (.string (bs is))).setCell ⟨w.heap.size + 1, 1, none⟩ (.int .i64 (ia : Int))).drew) := Lib.hid (by
          have hx := ((HXa.out.other (g := w.heap.size + 1) (i := 0) (by omega) (.string (bs is))).other (g := w.heap.size + 1) (i := 1) (by omega) (.int .i64 (ia : Int)))
          have hy := ((HQa.out.other (g := w.heap.size + 1) (i := 0) (by omega) (.string (bs is))).other (g := w.heap.size + 1) (i := 1) (by omega) (.int .i64 (ia : Int)))
          exact ⟨hx.c 0 rfl, hx.c 1 rfl, hy.c 0 rfl, hy.c 1 rfl⟩)
        go_upto_region 10 with fail
        refine wp_region_held_drew (S := (fun w' => w'.cell? ⟨w.heap.size, 0, none⟩ = some (.string (bs m)) ∧ w'.cell? ⟨w.heap.size, 1, none⟩ = some (.int .i64 (a : Int)) ∧ w'.cell? ⟨w9.heap.size, 0, none⟩ = some (.string (bs is)) ∧ w'.cell? ⟨w9.heap.size, 1, none⟩ = some (.int .i64 (ia : Int)))) (by kernel_rfl) ⟨c0, c1, q0, q1⟩ (fun hHeld => ?_)
        refine wpAnyH_take (i := 0) (oi := ⟨some 59, _, _, _, _, _⟩) (v := ?_) rfl (by kernel_rfl) (by kernel_rfl) (by kernel_rfl) (fun _ _ _ h => h) (Or.inl ⟨by kernel_rfl, ?hy0⟩) (by assumption) ?_
        case hy0 => (intro w' hSw; (try dsimp only at hSw); go_simp; try with_reducible rfl)
        simp only [Act.put, List.setIfInBounds_toArray, List.set_cons_zero, List.set_cons_succ]
        refine wpAnyH_take (i := 1) (oi := ⟨some 60, _, _, _, _, _⟩) (v := ?_) rfl (by kernel_rfl) (by kernel_rfl) (by kernel_rfl) (fun _ _ _ h => h) (Or.inl ⟨by kernel_rfl, ?hy1⟩) (by assumption) ?_
        case hy1 => (intro w' hSw; (try dsimp only at hSw); go_simp; try with_reducible rfl)
        simp only [Act.put, List.setIfInBounds_toArray, List.set_cons_zero, List.set_cons_succ]
        refine wpAnyH_take (i := 2) (oi := ⟨some 61, _, _, _, _, _⟩) (v := ?_) rfl (by kernel_rfl) (by kernel_rfl) (by kernel_rfl) (fun _ _ _ h => h) (Or.inl ⟨by kernel_rfl, ?hy2⟩) (by assumption) ?_
        case hy2 => (intro w' hSw; (try dsimp only at hSw); go_simp; try with_reducible rfl)
        simp only [Act.put, List.setIfInBounds_toArray, List.set_cons_zero, List.set_cons_succ]
        refine wpAnyH_take (i := 3) (oi := ⟨some 62, _, _, _, _, _⟩) (v := ?_) rfl (by kernel_rfl) (by kernel_rfl) (by kernel_rfl) (fun _ _ _ h => h) (Or.inl ⟨by kernel_rfl, ?hy3⟩) (by assumption) ?_
        case hy3 => (intro w' hSw; (try dsimp only at hSw); go_simp; try with_reducible rfl)
        simp only [Act.put, List.setIfInBounds_toArray, List.set_cons_zero, List.set_cons_succ]
        refine wpAnyH_ready (rs := [4]) (by kernel_rfl) (by simp) ?_
        refine AllReadyH.cons (o := ⟨none, _, _, _, _, _⟩) rfl (fun K hK => ?_) AllReadyH.nil
        (rw [if_pos (by kernel_rfl)])
        go_simp
        refine hK.out _ _ (HKEEP.out) (fun hHeld => ?_)
        clear hK K
        refine wpAnyH_take (i := 5) (oi := ⟨some 5, _, _, _, _, _⟩) (v := ?_) rfl (by kernel_rfl) (by kernel_rfl) (by kernel_rfl) (fun _ _ _ h => h) (Or.inl ⟨by kernel_rfl, ?hy5⟩) (by assumption) ?_
        case hy5 => (intro w' hSw; (try dsimp only at hSw); go_simp; try with_reducible rfl)
        simp only [Act.put, List.setIfInBounds_toArray, List.set_cons_zero, List.set_cons_succ]
        refine wpAnyH_done (by kernel_rfl) ?_ _
        go_wp2_with fail
        refine bodyPost_ret (results_bx2 rfl _ _ (w.heap.size + 1) (.string (bs is)) (.int .i64 (ia : Int)) 44 rfl (((HRa.out.set 0 _).set 1 _).below drewB0) Tryd.underlying44 (sizeBuf _)) rfl ?_
        exact ⟨by rw [HD.out]; rfl, ((HBa.out.setCell (p := ⟨w.heap.size + 1, 0, none⟩) (Nat.le_succ _) _).setCell (p := ⟨w.heap.size + 1, 1, none⟩) (Nat.le_succ _) _).drew⟩
      · have HR := Lib.hid (HF.out hf)
        have HJ := Lib.hid (HJ.out W8 hsp8 hf)
        clear hf HI HF hsp8 HNow
        refine HJ.out.mono ?_
        rintro e w9 ⟨rfl, hb9⟩
        clear c0 c1 r0 r1 rf0 rf1
        have hx9 := HX8.out.below hb9
        have HX9 := Lib.hid hx9
        have HR9 := Lib.hid (HR8.out.below hb9)
        have HB9 := Lib.hid (HB8.out.trans (hb9.mono HB8.out.size))
        have HXa := Lib.hid (HX9.out.alloc (.cells #[.string (bs cs), .int .i64 (ca : Int)] 44))
        have HRa := Lib.hid (HR9.out.alloc (.cells #[.string (bs cs), .int .i64 (ca : Int)] 44))
        have HBa := Lib.hid (HB9.out.alloc HB9.out.size (.cells #[.string (bs cs), .int .i64 (ca : Int)] 44))
        have hqa := BxA.new w9 44 [.string (bs cs), .int .i64 (ca : Int)]
        obtain ⟨Wa, hWa⟩ : ∃ Wa, w9.alloc (.cells #[.string (bs cs), .int .i64 (ca : Int)] 44) = Wa := ⟨_, rfl⟩
        rw [hWa] at hqa HXa HRa HBa
        have c0 := HXa.out.c 0 rfl
        have c1 := HXa.out.c 1 rfl
        have r0 := HRa.out.c 0 rfl
        have r1 := HRa.out.c 1 rfl
        have rf0 := HRa.out.free 0
        have rf1 := HRa.out.free 1
        have q0 := hqa.c 0 rfl
        have q1 := hqa.c 1 rfl
        have HR9lt := Lib.hid HR9.out.lt
        have HQa := Lib.hid hqa
        clear hb9 hx9 HX9 HR9 HB9 hqa d0 d1 HX8 HR8 HB8 hW8
        clear HJ
        go_wp2_with fail
        refine bodyPost_ret (results_bx2 rfl _ _ (w.heap.size + 1) (.string (bs m)) (.int .i64 (a : Int)) 44 rfl ((HRa.out.set 0 _).set 1 _) Tryd.underlying44 (sizeBuf _)) rfl ?_
        exact ⟨by rw [HR.out]; rfl, (HBa.out.setCell (p := ⟨w.heap.size + 1, 0, none⟩) (Nat.le_succ _) _).setCell (p := ⟨w.heap.size + 1, 1, none⟩) (Nat.le_succ _) _⟩
end
end
end Go.Proofs.YthifdojbbbnpaaaDoor
