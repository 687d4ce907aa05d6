/-
  Layer 7 and what it stands on, part 23 (TabGrow RMakes RCutT RIns).
-/
import Derived.Test.YtlmbafnoopfilaaGreatDoorPg21
import Derived.Test.YtlmbafnoopfilaaGreatDoorPg22
import Derived.Laws.StructEq
namespace Go.Proofs.YtlmbafnoopfilaaGreatDoor
section
open Go Go.RowKit
set_option maxRecDepth 100000
theorem drewB0 {w : World} : Below w.heap.size w w.drew := (Below.refl _ w).drew
theorem tneq (x y : Bf) (W : World) : (binOp .neq 36 (.agg #[.string (bs x.1), .int .i64 (x.2 : Int)]) (.agg #[.string (bs y.1), .int .i64 (y.2 : Int)])).run Tryz.prog W = .ok (.bool (decide (x ≠ y))) W := by
  obtain ⟨a, n⟩ := x
  obtain ⟨b, m⟩ := y
  have h1 := Tryz.underlying36
  have h2 := Tryz.underlying9
  have h3 := Tryz.underlying3
  rw [run_neq_struct]
  go_simp
  by_cases e1 : a = b <;> by_cases e2 : n = m <;> simp [e1, e2] <;> omega
theorem cutG_calls (m : List UInt8) (a : Nat) (h : Rt m a) (w : World) (hsp : Spans w) :
    Calls Tryz.prog 20 #[.agg #[.string (bs m), .int .i64 (a : Int)], .int .i64 (frmL (m, a) : Int), .int .i64 (a : Int)] w fun e w' => ∃ z, e = .returned (.tuple #[.agg #[.string (bs (cutG (m, a)).1), .int .i64 ((cutG (m, a)).2 : Int)], .string z]) ∧ Below w.heap.size w w' := by
  refine (cutT_calls m (a : Int) (frmL (m, a) : Int) (a : Int) (by have := h.2.1; omega) w hsp).mono ?_
  rintro e w' ⟨rfl, hb⟩
  rw [h.make.1, h.make.2, h.2.2.back]
  exact ⟨_, rfl, hb⟩
theorem insG_ok (m : List UInt8) (a : Nat) (h : Rt m a) (t : ByteArray) (ht : t.size ≤ 137438953472) (w : World) (hsp : Spans w) (hf : fits (m, a) (plainL (bl t))) :
    Calls Tryz.prog 21 #[.agg #[.string (bs m), .int .i64 (a : Int)], .string t] w fun e w' => e = .returned (.tuple #[.agg #[.string (bs (insB (m, a) (plainL (bl t))).1), .int .i64 ((insB (m, a) (plainL (bl t))).2 : Int)], .int .i64 0]) ∧ Below w.heap.size w w' := by
  have := insert_ok m (bl t) (a : Int) (by have := h.2.1; omega) (by unfold bl; simpa using ht) w hsp (by rw [h.make.1]; exact hf)
  rw [h.make.1, h.make.2, bs_bl] at this
  exact this
theorem insG_no (m : List UInt8) (a : Nat) (h : Rt m a) (t : ByteArray) (ht : t.size ≤ 137438953472) (w : World) (hsp : Spans w) (hf : ¬ fits (m, a) (plainL (bl t))) :
    Calls Tryz.prog 21 #[.agg #[.string (bs m), .int .i64 (a : Int)], .string t] w fun e w' => e = .returned (.tuple #[.agg #[.string (bs m), .int .i64 (a : Int)], .int .i64 30]) ∧ Below w.heap.size w w' := by
  have := insert_no m (bl t) (a : Int) (by have := h.2.1; omega) (by unfold bl; simpa using ht) w hsp (by rw [h.make.1]; unfold fits at hf; dsimp only at hf; omega)
  rw [h.make.1, h.make.2, bs_bl] at this
  exact this
theorem growR_none {l : List PR} {b : Bf} (h : getP l (bs (headL b)) = none) : growR l b = (b, false) := by unfold growR; rw [h]
theorem growR_mid (l : List PR) (b : Bf) (t : ByteArray) (h : getP l (bs (headL b)) = some t) (ha : atBlank b = false) : growR l b = (b, false) := by
  unfold growR
  rw [h]
  dsimp only
  rw [if_neg (by rw [ha]; simp)]
theorem growR_full (l : List PR) (b : Bf) (t : ByteArray) (h : getP l (bs (headL b)) = some t) (hf : ¬ fits (cutG b) (plainL (bl t))) : growR l b = (b, false) := by
  unfold growR
  rw [h]
  dsimp only
  rw [if_neg (fun e => hf e.2)]
theorem growR_now (l : List PR) (b : Bf) (t : ByteArray) (h : getP l (bs (headL b)) = some t) (ha : atBlank b = true) (hf : fits (cutG b) (plainL (bl t))) : growR l b = (insB (cutG b) (plainL (bl t)), decide (insB (cutG b) (plainL (bl t)) ≠ b)) := by
  unfold growR
  rw [h]
  dsimp only
  rw [if_pos ⟨ha, hf⟩]
section
variable (w : World) (O : Nat → Prop) (b : Nat) (l : List PR) (h : TabAt w O b l) (hsp : Spans w)
include h hsp
set_option maxHeartbeats 8000000 in
theorem tgrow_calls (x : List UInt8) (n : Int) (hx : x.length ≤ 137438953472) :
    Calls Tryz.prog 7 #[.pointer (some ⟨b, 0, none⟩), .agg #[.string (bs x), .int .i64 n]] w fun e w' => e = .returned (.tuple #[.agg #[.string (bs (growR l (mS x, mA x n)).1.1), .int .i64 ((growR l (mS x, mA x n)).1.2 : Int)], .bool (growR l (mS x, mA x n)).2]) ∧ Below w.heap.size w w' := by
  obtain ⟨W2, hW2⟩ : ∃ W2, (w.alloc (.cells #[.string (bs x), .int .i64 n] 36)).alloc (.cells #[.string ⟨#[]⟩, .int .i64 0] 36) = W2 := ⟨_, rfl⟩
  have hB2 : Below w.heap.size w W2 := by rw [← hW2]; exact ((Below.refl _ w).alloc (Nat.le_refl _) _).alloc (by rw [World.size_alloc]; omega) _
  have hs2 : W2.heap.size = w.heap.size + 2 := by rw [← hW2, World.size_alloc, World.size_alloc]
  have hb0 : BxA W2 w.heap.size 36 [.string (bs x), .int .i64 n] := by rw [← hW2]; exact (BxA.new w _ _).alloc _
  have hr0 : BxA W2 (w.heap.size + 1) 36 [.string ⟨#[]⟩, .int .i64 0] := by
    rw [← hW2]
    have := BxA.new (w.alloc (.cells #[.string (bs x), .int .i64 n] 36)) 36 [.string ⟨#[]⟩, .int .i64 0]
    rwa [World.size_alloc] at this
  have H := Lib.hid h
  have HS := Lib.hid hsp
  have HM := Lib.hid (fun W hW => make_calls x n hx W hW)
  have hrt := make_rt x n
  have ha := hrt.2.2.le
  have HRt := Lib.hid hrt
  have HN := Lib.hid (@growR_none l (mS x, mA x n))
  have HMid := Lib.hid (growR_mid l (mS x, mA x n))
  have HF := Lib.hid (growR_full l (mS x, mA x n))
  have HNow := Lib.hid (growR_now l (mS x, mA x n))
  generalize growR l (mS x, mA x n) = res at *
  generalize mA x n = a at *
  generalize mS x = m at *
  have k0 := hb0.c 0 rfl
  have k1 := hb0.c 1 rfl
  have HB2 := Lib.hid hB2
  have HB0 := Lib.hid hb0
  have HR0 := Lib.hid hr0
  have Hs2 := Lib.hid hs2
  clear h hsp hrt hB2 hb0 hr0 hs2
  go_enter Tryz.func7, Tryz.ntmps7
  go_wp2_with fail
  refine (HM.out _ (spans_below HS.out HB2.out)).mono ?_
  rintro e w1 ⟨rfl, hb1⟩
  have hx1 := HB0.out.below hb1
  have hr1 := HR0.out.below hb1
  have hB1 := HB2.out.trans (hb1.mono HB2.out.size)
  have e0 := hx1.c 0 rfl
  have e1 := hx1.c 1 rfl
  have f0 := hx1.free 0
  have f1 := hx1.free 1
  obtain ⟨W3, hW3⟩ : ∃ W3, (w1.setCell ⟨w.heap.size, 0, none⟩ (.string (bs m))).setCell ⟨w.heap.size, 1, none⟩ (.int .i64 (a : Int)) = W3 := ⟨_, rfl⟩
  have hx3 : BxA W3 w.heap.size 36 [.string (bs m), .int .i64 (a : Int)] := by rw [← hW3]; exact (hx1.set 0 _).set 1 _
  have hr3 : BxA W3 (w.heap.size + 1) 36 [.string ⟨#[]⟩, .int .i64 0] := by rw [← hW3]; exact (hr1.other (by omega) _).other (by omega) _
  have hB3 : Below w.heap.size w W3 := by rw [← hW3]; exact (hB1.setCell (p := ⟨w.heap.size, 0, none⟩) (Nat.le_refl _) _).setCell (p := ⟨w.heap.size, 1, none⟩) (Nat.le_refl _) _
  have HX3 := Lib.hid hx3
  have HR3 := Lib.hid hr3
  have HB3 := Lib.hid hB3
  have c0 := hx3.c 0 rfl
  have c1 := hx3.c 1 rfl
  have ht := bs_take m a
  have hsz := bs_size m
  clear hx1 hr1 hB1 hb1 hx3 hr3 hB3 HM k0 k1 HB0 HR0 HB2
  go_wp2_with fail
  refine (trimLeft_calls (m.take a) W3).mono ?_
  rintro e w4 ⟨rfl, hb4⟩
  rw [show ((m.take a).dropWhile fun c => c == 32) = headL (m, a) from rfl]
  have hx4 := HX3.out.below hb4
  have HX4 := Lib.hid hx4
  have HR4 := Lib.hid (HR3.out.below hb4)
  have HB4 := Lib.hid (HB3.out.trans (hb4.mono HB3.out.size))
  have hhl := headL_le (m, a) ha
  have hhz := bs_size (headL (m, a))
  have hfr : (a : Int) - ((headL (m, a)).length : Int) = (frmL (m, a) : Int) := by unfold frmL; omega
  have HFr := Lib.hid hfr
  clear hb4 c0 c1 HX3 HR3 HB3 hW3 e0 e1 f0 f1 ht hfr hx4
  go_wp2_with fail
  refine (tget_calls w4 O b l (H.out.below HB4.out) (bs (headL (m, a)))).mono ?_
  rintro e w5 ⟨rfl, hb5⟩
  have hx5 := HX4.out.below hb5
  have HX5 := Lib.hid hx5
  have HR5 := Lib.hid (HR4.out.below hb5)
  have HB5 := Lib.hid (HB4.out.trans (hb5.mono HB4.out.size))
  have c0 := hx5.c 0 rfl
  have c1 := hx5.c 1 rfl
  have r0 := HR5.out.c 0 rfl
  have r1 := HR5.out.c 1 rfl
  have rf0 := HR5.out.free 0
  have rf1 := HR5.out.free 1
  clear hb5 HX4 HR4 HB4 hx5
  cases hg : getP l (bs (headL (m, a))) with
  | none =>
    have HR := Lib.hid (HN.out hg)
    clear hg HN HMid HF HNow
    go_wp2_with fail
    refine bodyPost_ret (results_bx2 rfl _ _ (w.heap.size + 1) (.string (bs m)) (.int .i64 (a : Int)) 36 rfl ((HR5.out.set 0 _).set 1 _) Tryz.underlying36 (sizeBuf _)) rfl ?_
    exact ⟨by rw [HR.out]; rfl, (HB5.out.setCell (p := ⟨w.heap.size + 1, 0, none⟩) (Nat.le_succ _) _).setCell (p := ⟨w.heap.size + 1, 1, none⟩) (Nat.le_succ _) _⟩
  | some t =>
    have Ht : Hid (t.size ≤ 137438953472) := Lib.hid (by
      have := (H.out.small (bs (headL (m, a)), t) ((getP_iff H.out.rising.once).1 hg)).2
      dsimp only at this
      omega)
    have HMid := Lib.hid (HMid.out t hg)
    have HF := Lib.hid (HF.out t hg)
    have HNow := Lib.hid (HNow.out t hg)
    have HE := Lib.hid (ended_calls m a ha w5)
    clear hg HN
    cases hab : atBlank (m, a) with
    | false =>
      have HR := Lib.hid (HMid.out hab)
      rw [hab] at HE
      clear HF HNow HMid hab
      go_wp2_with fail
      refine HE.out.mono ?_
      rintro e w6 ⟨rfl, hb6⟩
      clear c0 c1 r0 r1 rf0 rf1
      have hx6 := HX5.out.below hb6
      have HX6 := Lib.hid hx6
      have HR6 := Lib.hid (HR5.out.below hb6)
      have HB6 := Lib.hid (HB5.out.trans (hb6.mono HB5.out.size))
      have c0 := hx6.c 0 rfl
      have c1 := hx6.c 1 rfl
      have r0 := HR6.out.c 0 rfl
      have r1 := HR6.out.c 1 rfl
      have rf0 := HR6.out.free 0
      have rf1 := HR6.out.free 1
      clear hb6 hx6 HE HX5 HR5 HB5
      go_wp2_with fail
      refine bodyPost_ret (results_bx2 rfl _ _ (w.heap.size + 1) (.string (bs m)) (.int .i64 (a : Int)) 36 rfl ((HR6.out.set 0 _).set 1 _) Tryz.underlying36 (sizeBuf _)) rfl ?_
      exact ⟨by rw [HR.out]; rfl, (HB6.out.setCell (p := ⟨w.heap.size + 1, 0, none⟩) (Nat.le_succ _) _).setCell (p := ⟨w.heap.size + 1, 1, none⟩) (Nat.le_succ _) _⟩
    | true =>
      have HNow := Lib.hid (HNow.out hab)
      rw [hab] at HE
      have HC := Lib.hid (fun W hW => cutG_calls m a HRt.out W hW)
      rw [← HFr.out] at HC
      have hcr := cutG_rt (b := (m, a)) HRt.out
      have HI := Lib.hid (fun W hW => insG_ok (cutG (m, a)).1 (cutG (m, a)).2 hcr t Ht.out W hW)
      have HJ := Lib.hid (fun W hW => insG_no (cutG (m, a)).1 (cutG (m, a)).2 hcr t Ht.out W hW)
      have hcl : (cutG (m, a)).1.length ≤ 600 := hcr.2.1
      have hm6 : m.length ≤ 600 := HRt.out.2.1
      clear hab HMid
      generalize cutG (m, a) = cg at *
      obtain ⟨cs, ca⟩ := cg
      dsimp only at HI HJ HC
      go_wp2_with fail
      refine HE.out.mono ?_
      rintro e w6 ⟨rfl, hb6⟩
      clear c0 c1 r0 r1 rf0 rf1
      have hx6 := HX5.out.below hb6
      have HX6 := Lib.hid hx6
      have HR6 := Lib.hid (HR5.out.below hb6)
      have HB6 := Lib.hid (HB5.out.trans (hb6.mono HB5.out.size))
      have c0 := hx6.c 0 rfl
      have c1 := hx6.c 1 rfl
      have r0 := HR6.out.c 0 rfl
      have r1 := HR6.out.c 1 rfl
      have rf0 := HR6.out.free 0
      have rf1 := HR6.out.free 1
      clear hb6 hx6 HE HX5 HR5 HB5
      go_wp2_with fail
      refine (HC.out w6 (spans_below HS.out HB6.out)).mono ?_
      rintro e w7 ⟨z, rfl, hb7⟩
      clear c0 c1 r0 r1 rf0 rf1
      have hx7 := HX6.out.below hb7
      have HX7 := Lib.hid hx7
      have HR7 := Lib.hid (HR6.out.below hb7)
      have HB7 := Lib.hid (HB6.out.trans (hb7.mono HB6.out.size))
      have c0 := hx7.c 0 rfl
      have c1 := hx7.c 1 rfl
      have r0 := HR7.out.c 0 rfl
      have r1 := HR7.out.c 1 rfl
      have rf0 := HR7.out.free 0
      have rf1 := HR7.out.free 1
      have hq7 := BxA.new w7 36 [.string (bs cs), .int .i64 (ca : Int)]
      have HX8 := Lib.hid (HX7.out.alloc (.cells #[.string (bs cs), .int .i64 (ca : Int)] 36))
      have HR8 := Lib.hid (HR7.out.alloc (.cells #[.string (bs cs), .int .i64 (ca : Int)] 36))
      have HB8 := Lib.hid (HB7.out.alloc HB7.out.size (.cells #[.string (bs cs), .int .i64 (ca : Int)] 36))
      obtain ⟨W8, hW8⟩ : ∃ W8, w7.alloc (.cells #[.string (bs cs), .int .i64 (ca : Int)] 36) = W8 := ⟨_, rfl⟩
      rw [hW8] at hq7 HX8 HR8 HB8
      have d0 := hq7.c 0 rfl
      have d1 := hq7.c 1 rfl
      clear hb7 hx7 HC HX6 HR6 HB6 hq7 hhl hhz hm6 hcl ha hsz
      go_wp2_with fail
      have hsp8 := spans_below HS.out HB8.out
      by_cases hf : fits (cs, ca) (plainL (bl t))
      · have HR := Lib.hid (HNow.out hf)
        have HI := Lib.hid (HI.out W8 hsp8 hf)
        clear hf HJ HF hsp8 HNow
        generalize insB (cs, ca) (plainL (bl t)) = ib at *
        obtain ⟨is, ia⟩ := ib
        refine HI.out.mono ?_
        rintro e w9 ⟨rfl, hb9⟩
        clear c0 c1 r0 r1 rf0 rf1
        have hx9 := HX8.out.below hb9
        have HX9 := Lib.hid hx9
        have HR9 := Lib.hid (HR8.out.below hb9)
        have HB9 := Lib.hid (HB8.out.trans (hb9.mono HB8.out.size))
        have HXa := Lib.hid (HX9.out.alloc (.cells #[.string (bs is), .int .i64 (ia : Int)] 36))
        have HRa := Lib.hid (HR9.out.alloc (.cells #[.string (bs is), .int .i64 (ia : Int)] 36))
        have HBa := Lib.hid (HB9.out.alloc HB9.out.size (.cells #[.string (bs is), .int .i64 (ia : Int)] 36))
        have hqa := BxA.new w9 36 [.string (bs is), .int .i64 (ia : Int)]
        obtain ⟨Wa, hWa⟩ : ∃ Wa, w9.alloc (.cells #[.string (bs is), .int .i64 (ia : Int)] 36) = Wa := ⟨_, rfl⟩
        rw [hWa] at hqa HXa HRa HBa
        have c0 := HXa.out.c 0 rfl
        have c1 := HXa.out.c 1 rfl
        have r0 := HRa.out.c 0 rfl
        have r1 := HRa.out.c 1 rfl
        have rf0 := HRa.out.free 0
        have rf1 := HRa.out.free 1
        have q0 := hqa.c 0 rfl
        have q1 := hqa.c 1 rfl
        have HR9lt := Lib.hid HR9.out.lt
        have HQa := Lib.hid hqa
        clear hb9 hx9 HX9 HR9 HB9 hqa d0 d1 HX8 HR8 HB8 hW8
        clear HI
        have hne := tneq (is, ia) (m, a)
        dsimp only at hne
        have HD : Hid (res = ((is, ia), decide ((is, ia) ≠ (m, a)))) := HR
        clear HR
        generalize decide ((is, ia) ≠ (m, a)) = q at *
        have hn9 : w.heap.size + 1 < w9.heap.size := HR9lt.out
        have HKEEP : Hid ((fun w' => w'.cell? ⟨w.heap.size, 0, none⟩ = some (.string (bs m)) ∧ w'.cell? ⟨w.heap.size, 1, none⟩ = some (.int .i64 (a : Int)) ∧ w'.cell? ⟨w9.heap.size, 0, none⟩ = some (.string (bs is)) ∧ w'.cell? ⟨w9.heap.size, 1, none⟩ = some (.int .i64 (ia : Int))) ((Wa.setCell ⟨w.heap.size + 1, 0, none⟩ (.string (bs is))).setCell ⟨w.heap.size + 1, 1, none⟩ (.int .i64 (ia : Int))).drew) := Lib.hid (by
          have hx := ((HXa.out.other (g := w.heap.size + 1) (i := 0) (by omega) (.string (bs is))).other (g := w.heap.size + 1) (i := 1) (by omega) (.int .i64 (ia : Int)))
          have hy := ((HQa.out.other (g := w.heap.size + 1) (i := 0) (by omega) (.string (bs is))).other (g := w.heap.size + 1) (i := 1) (by omega) (.int .i64 (ia : Int)))
          exact ⟨hx.c 0 rfl, hx.c 1 rfl, hy.c 0 rfl, hy.c 1 rfl⟩)
        go_upto_region 10 with fail
        refine wp_region_held_drew (S := (fun w' => w'.cell? ⟨w.heap.size, 0, none⟩ = some (.string (bs m)) ∧ w'.cell? ⟨w.heap.size, 1, none⟩ = some (.int .i64 (a : Int)) ∧ w'.cell? ⟨w9.heap.size, 0, none⟩ = some (.string (bs is)) ∧ w'.cell? ⟨w9.heap.size, 1, none⟩ = some (.int .i64 (ia : Int)))) (by kernel_rfl) ⟨c0, c1, q0, q1⟩ (fun hHeld => ?_)
        refine wpAnyH_take (i := 0) (oi := ⟨some 59, _, _, _, _, _⟩) (v := ?_) rfl (by kernel_rfl) (by kernel_rfl) (by kernel_rfl) (fun _ _ _ h => h) (Or.inl ⟨by kernel_rfl, ?hy0⟩) (by assumption) ?_
        case hy0 => (intro w' hSw; (try dsimp only at hSw); go_simp; try with_reducible rfl)
        simp only [Act.put, List.setIfInBounds_toArray, List.set_cons_zero, List.set_cons_succ]
        refine wpAnyH_take (i := 1) (oi := ⟨some 60, _, _, _, _, _⟩) (v := ?_) rfl (by kernel_rfl) (by kernel_rfl) (by kernel_rfl) (fun _ _ _ h => h) (Or.inl ⟨by kernel_rfl, ?hy1⟩) (by assumption) ?_
        case hy1 => (intro w' hSw; (try dsimp only at hSw); go_simp; try with_reducible rfl)
        simp only [Act.put, List.setIfInBounds_toArray, List.set_cons_zero, List.set_cons_succ]
        refine wpAnyH_take (i := 2) (oi := ⟨some 61, _, _, _, _, _⟩) (v := ?_) rfl (by kernel_rfl) (by kernel_rfl) (by kernel_rfl) (fun _ _ _ h => h) (Or.inl ⟨by kernel_rfl, ?hy2⟩) (by assumption) ?_
        case hy2 => (intro w' hSw; (try dsimp only at hSw); go_simp; try with_reducible rfl)
        simp only [Act.put, List.setIfInBounds_toArray, List.set_cons_zero, List.set_cons_succ]
        refine wpAnyH_take (i := 3) (oi := ⟨some 62, _, _, _, _, _⟩) (v := ?_) rfl (by kernel_rfl) (by kernel_rfl) (by kernel_rfl) (fun _ _ _ h => h) (Or.inl ⟨by kernel_rfl, ?hy3⟩) (by assumption) ?_
        case hy3 => (intro w' hSw; (try dsimp only at hSw); go_simp; try with_reducible rfl)
        simp only [Act.put, List.setIfInBounds_toArray, List.set_cons_zero, List.set_cons_succ]
        refine wpAnyH_ready (rs := [4]) (by kernel_rfl) (by simp) ?_
        refine AllReadyH.cons (o := ⟨none, _, _, _, _, _⟩) rfl (fun K hK => ?_) AllReadyH.nil
        (rw [if_pos (by kernel_rfl)])
        go_simp
        refine hK.out _ _ (HKEEP.out) (fun hHeld => ?_)
        clear hK K
        refine wpAnyH_take (i := 5) (oi := ⟨some 5, _, _, _, _, _⟩) (v := ?_) rfl (by kernel_rfl) (by kernel_rfl) (by kernel_rfl) (fun _ _ _ h => h) (Or.inl ⟨by kernel_rfl, ?hy5⟩) (by assumption) ?_
        case hy5 => (intro w' hSw; (try dsimp only at hSw); go_simp; try with_reducible rfl)
        simp only [Act.put, List.setIfInBounds_toArray, List.set_cons_zero, List.set_cons_succ]
        refine wpAnyH_done (by kernel_rfl) ?_ _
        go_wp2_with fail
        refine bodyPost_ret (results_bx2 rfl _ _ (w.heap.size + 1) (.string (bs is)) (.int .i64 (ia : Int)) 36 rfl (((HRa.out.set 0 _).set 1 _).below drewB0) Tryz.underlying36 (sizeBuf _)) rfl ?_
        exact ⟨by rw [HD.out]; rfl, ((HBa.out.setCell (p := ⟨w.heap.size + 1, 0, none⟩) (Nat.le_succ _) _).setCell (p := ⟨w.heap.size + 1, 1, none⟩) (Nat.le_succ _) _).drew⟩
      · have HR := Lib.hid (HF.out hf)
        have HJ := Lib.hid (HJ.out W8 hsp8 hf)
        clear hf HI HF hsp8 HNow
        refine HJ.out.mono ?_
        rintro e w9 ⟨rfl, hb9⟩
        clear c0 c1 r0 r1 rf0 rf1
        have hx9 := HX8.out.below hb9
        have HX9 := Lib.hid hx9
        have HR9 := Lib.hid (HR8.out.below hb9)
        have HB9 := Lib.hid (HB8.out.trans (hb9.mono HB8.out.size))
        have HXa := Lib.hid (HX9.out.alloc (.cells #[.string (bs cs), .int .i64 (ca : Int)] 36))
        have HRa := Lib.hid (HR9.out.alloc (.cells #[.string (bs cs), .int .i64 (ca : Int)] 36))
        have HBa := Lib.hid (HB9.out.alloc HB9.out.size (.cells #[.string (bs cs), .int .i64 (ca : Int)] 36))
        have hqa := BxA.new w9 36 [.string (bs cs), .int .i64 (ca : Int)]
        obtain ⟨Wa, hWa⟩ : ∃ Wa, w9.alloc (.cells #[.string (bs cs), .int .i64 (ca : Int)] 36) = Wa := ⟨_, rfl⟩
        rw [hWa] at hqa HXa HRa HBa
        have c0 := HXa.out.c 0 rfl
        have c1 := HXa.out.c 1 rfl
        have r0 := HRa.out.c 0 rfl
        have r1 := HRa.out.c 1 rfl
        have rf0 := HRa.out.free 0
        have rf1 := HRa.out.free 1
        have q0 := hqa.c 0 rfl
        have q1 := hqa.c 1 rfl
        have HR9lt := Lib.hid HR9.out.lt
        have HQa := Lib.hid hqa
        clear hb9 hx9 HX9 HR9 HB9 hqa d0 d1 HX8 HR8 HB8 hW8
        clear HJ
        go_wp2_with fail
        refine bodyPost_ret (results_bx2 rfl _ _ (w.heap.size + 1) (.string (bs m)) (.int .i64 (a : Int)) 36 rfl ((HRa.out.set 0 _).set 1 _) Tryz.underlying36 (sizeBuf _)) rfl ?_
        exact ⟨by rw [HR.out]; rfl, (HBa.out.setCell (p := ⟨w.heap.size + 1, 0, none⟩) (Nat.le_succ _) _).setCell (p := ⟨w.heap.size + 1, 1, none⟩) (Nat.le_succ _) _⟩
end
end
section
open Go Go.RowKit
set_option maxHeartbeats 2000000 in
theorem rmake_calls (l : List UInt8) (n : Int) (hl : l.length ≤ 137438953472) (w : World) :
    Calls Tryz.prog 22 #[.string (bs l), .int .i64 n] w fun e w' => e = .returned (.agg #[.string (bs (mS l)), .int .i64 (mA l n : Int)]) ∧ Below w.heap.size w w' := by
  have k0 : Below w.heap.size w (w.alloc (.cells #[.string ⟨#[]⟩, .int .i64 0] 24)) := (Below.refl _ w).alloc (Nat.le_refl _) _
  have hb0 := Bx.new w 24 (.string ⟨#[]⟩) (.int .i64 0)
  have HP := Lib.hid (fun W => rplain_calls l hl W)
  have hpl := plain_length l
  have hbl := backL_le (plainL l) 600
  have hms := mS_len l
  have HB1 := Lib.hid (fun W => rback_calls (plainL l) 600 (by omega) W)
  have HB2 := Lib.hid (fun W => rback_calls (mS l) n (by omega) W)
  have hex : (bs (plainL l)).extract 0 (backL (plainL l) 600) = bs (mS l) := bs_take _ _
  have HmA : Hid (backL (mS l) n = mA l n) := Lib.hid rfl
  have Hsh := Lib.hid (mS_short l)
  have hsz := bs_size (plainL l)
  generalize backL (mS l) n = a at *
  generalize mA l n = a' at *
  obtain rfl := HmA.out
  generalize backL (plainL l) 600 = b at *
  generalize mS l = m at *
  generalize plainL l = p at *
  by_cases h6 : 600 < p.length
  · have hd : decide ((600 : Int) < (p.length : Int)) = true := decide_eq_true (by omega)
    go_enter Tryz.func22, Tryz.ntmps22
    go_wp2_with fail
    refine (HP.out _).mono ?_
    rintro e w1 ⟨rfl, hb1⟩
    have k1 := k0.trans (hb1.mono k0.size)
    have g1 := hb0.below hb1
    clear hb1
    go_wp2_with fail
    refine (HB1.out _).mono ?_
    rintro e w2 ⟨rfl, hb2⟩
    have k2 := k1.trans (hb2.mono k1.size)
    have g2 := g1.below hb2
    clear hb2 g1 k1
    go_wp2_with fail
    refine (HB2.out _).mono ?_
    rintro e w3 ⟨rfl, hb3⟩
    have k3 := k2.trans (hb3.mono k2.size)
    have g3 := g2.below hb3
    have c0 := g3.c0
    have c1 := g3.c1
    have f0 := g3.f0
    have f1 := g3.f1
    have G3 := Lib.hid g3
    have K3 := Lib.hid k3
    clear hb3 g2 k2 g3 k3
    go_wp2
    refine bodyPost_ret (results_bx rfl _ _ w.heap.size (.string (bs m)) (.int .i64 (a : Int)) 24 rfl ((G3.out.set0 _).set1 _) Tryz.underlying24 (sizeRBuf _)) rfl ?_
    exact ⟨rfl, (K3.out.setCell (p := ⟨w.heap.size, 0, none⟩) (Nat.le_refl _) _).setCell (p := ⟨w.heap.size, 1, none⟩) (Nat.le_refl _) _⟩
  · have hd : decide ((600 : Int) < (p.length : Int)) = false := decide_eq_false (by omega)
    obtain rfl := Hsh.out (by omega)
    clear Hsh hex
    go_enter Tryz.func22, Tryz.ntmps22
    go_wp2_with fail
    refine (HP.out _).mono ?_
    rintro e w1 ⟨rfl, hb1⟩
    have k1 := k0.trans (hb1.mono k0.size)
    have g1 := hb0.below hb1
    clear hb1
    go_wp2_with fail
    refine (HB2.out _).mono ?_
    rintro e w3 ⟨rfl, hb3⟩
    have k3 := k1.trans (hb3.mono k1.size)
    have g3 := g1.below hb3
    have c0 := g3.c0
    have c1 := g3.c1
    have f0 := g3.f0
    have f1 := g3.f1
    have G3 := Lib.hid g3
    have K3 := Lib.hid k3
    clear hb3 g1 k1 g3 k3
    go_wp2
    refine bodyPost_ret (results_bx rfl _ _ w.heap.size (.string (bs _)) (.int .i64 (a : Int)) 24 rfl ((G3.out.set0 _).set1 _) Tryz.underlying24 (sizeRBuf _)) rfl ?_
    exact ⟨rfl, (K3.out.setCell (p := ⟨w.heap.size, 0, none⟩) (Nat.le_refl _) _).setCell (p := ⟨w.heap.size, 1, none⟩) (Nat.le_refl _) _⟩
end
section
open Go Go.RowKit
set_option maxHeartbeats 4000000 in
theorem rcutT_no (l : List UInt8) (n x y : Int) (hl : l.length ≤ 137438953472) (w : World) (hft : backL (mS l) y ≤ backL (mS l) x) :
    Calls Tryz.prog 23 #[.agg #[.string (bs l), .int .i64 n], .int .i64 x, .int .i64 y] w fun e w' => e = .returned (.tuple #[.agg #[.string (bs (mS l)), .int .i64 (mA l n : Int)], .string ⟨#[]⟩]) ∧ Below w.heap.size w w' := by
  have HM := Lib.hid (fun W => rmake_calls l n hl W)
  have ha := mA_le l n
  have hms := mS_len l
  have HB1 := Lib.hid (fun W => rback_calls (mS l) x (by omega) W)
  have HB2 := Lib.hid (fun W => rback_calls (mS l) y (by omega) W)
  have hf := backL_le (mS l) x
  have ht := backL_le (mS l) y
  generalize backL (mS l) x = f at *
  generalize backL (mS l) y = t at *
  generalize mA l n = a at *
  generalize mS l = m at *
  have k0 : Below w.heap.size w ((w.alloc (.cells #[.string (bs l), .int .i64 n] 24)).alloc (.cells #[.string ⟨#[]⟩, .int .i64 0] 24)) := ((Below.refl _ w).alloc (Nat.le_refl _) _).alloc (by simp) _
  have b0 := (Bx.new w 24 (.string (bs l)) (.int .i64 n)).alloc (.cells #[.string ⟨#[]⟩, .int .i64 0] 24)
  have r0 := Bx.new (w.alloc (.cells #[.string (bs l), .int .i64 n] 24)) 24 (.string ⟨#[]⟩) (.int .i64 0)
  rw [World.size_alloc] at r0
  have c00 := b0.c0
  have c01 := b0.c1
  have hd : decide ((t : Int) ≤ (f : Int)) = true := decide_eq_true (by omega)
  go_enter Tryz.func23, Tryz.ntmps23
  go_wp2_with fail
  refine (HM.out _).mono ?_
  rintro e w1 ⟨rfl, hb1⟩
  have k1 := k0.trans (hb1.mono k0.size)
  have b1 := b0.below hb1
  have r1 := r0.below hb1
  clear hb1 c00 c01 b0 r0 k0
  have c10 := b1.c0
  have c11 := b1.c1
  have f10 := b1.f0
  have f11 := b1.f1
  have b3 := (b1.set0 (.string (bs m))).set1 (.int .i64 (a : Int))
  have r3 := (r1.other (i := 0) (Nat.succ_ne_self _) (.string (bs m))).other (i := 1) (Nat.succ_ne_self _) (.int .i64 (a : Int))
  have k3 := (k1.setCell (p := ⟨w.heap.size, 0, none⟩) (Nat.le_refl _) (.string (bs m))).setCell (p := ⟨w.heap.size, 1, none⟩) (Nat.le_refl _) (.int .i64 (a : Int))
  have B3 := Lib.hid b3
  have R3 := Lib.hid r3
  have K3 := Lib.hid k3
  clear b3 r3 k3 b1 r1 k1
  go_wp2_with fail
  refine (HB1.out _).mono ?_
  rintro e w4 ⟨rfl, hb4⟩
  have k4 := K3.out.trans (hb4.mono K3.out.size)
  have b4 := B3.out.below hb4
  have r4 := R3.out.below hb4
  clear hb4 c10 c11 f10 f11
  have c40 := b4.c0
  have c41 := b4.c1
  go_wp2_with fail
  refine (HB2.out _).mono ?_
  rintro e w5 ⟨rfl, hb5⟩
  have k5 := k4.trans (hb5.mono k4.size)
  have b5 := b4.below hb5
  have r5 := r4.below hb5
  clear hb5 k4 b4 r4 c40 c41
  have c50 := b5.c0
  have c51 := b5.c1
  have K5 := Lib.hid k5
  have R5 := Lib.hid r5
  have B5 := Lib.hid b5
  clear k5 r5 b5
  have r50 := R5.out.c0
  have r51 := R5.out.c1
  have q50 := R5.out.f0
  have q51 := R5.out.f1
  go_wp2
  refine bodyPost_ret (results_bx2 rfl _ _ (w.heap.size + 1) (.string (bs m)) (.int .i64 (a : Int)) 24 rfl ((R5.out.set0 _).set1 _) Tryz.underlying24 (sizeRBuf _)) rfl ?_
  exact ⟨rfl, (K5.out.setCell (p := ⟨w.heap.size + 1, 0, none⟩) (Nat.le_succ _) _).setCell (p := ⟨w.heap.size + 1, 1, none⟩) (Nat.le_succ _) _⟩
set_option maxHeartbeats 4000000 in
theorem rcutT_ok (l : List UInt8) (n x y : Int) (hl : l.length ≤ 137438953472) (w : World) (hft : backL (mS l) x < backL (mS l) y) :
    Calls Tryz.prog 23 #[.agg #[.string (bs l), .int .i64 n], .int .i64 x, .int .i64 y] w fun e w' => e = .returned (.tuple #[.agg #[.string (bs (cutS (mS l) (backL (mS l) x) (backL (mS l) y))), .int .i64 (cutA (mS l) (mA l n) (backL (mS l) x) (backL (mS l) y) : Int)], .string (bs (goneS (mS l) (backL (mS l) x) (backL (mS l) y)))]) ∧ Below w.heap.size w w' := by
  have HM := Lib.hid (fun W => rmake_calls l n hl W)
  have ha := mA_le l n
  have hms := mS_len l
  have HB1 := Lib.hid (fun W => rback_calls (mS l) x (by omega) W)
  have HB2 := Lib.hid (fun W => rback_calls (mS l) y (by omega) W)
  have hf := backL_le (mS l) x
  have ht := backL_le (mS l) y
  generalize backL (mS l) x = f at *
  generalize backL (mS l) y = t at *
  generalize mA l n = a at *
  generalize mS l = m at *
  have hcl := cutS_length m f t (by omega) ht
  have hca := cutAt_le a f t (by omega) (by omega)
  have HB3 := Lib.hid (fun W => rback_calls (cutS m f t) ((cutAt a f t : Nat) : Int) (by omega) W)
  have HcA : Hid (backL (cutS m f t) ((cutAt a f t : Nat) : Int) = cutA m a f t) := Lib.hid rfl
  rw [HcA.out] at HB3
  have hx1 := bs_take m f
  have hx2 := bs_drop m t
  have hx3 : (bs m).extract f t = bs (goneS m f t) := bs_mid m f t
  have hp1 : ∀ W : World, (Op.stringOp .add (bs (m.take f)) (bs (m.drop t))).run Tryz.prog W = .ok (.string (bs (cutS m f t))) W :=
    add_bs Tryz.prog (m.take f) (m.drop t) (by have := take_len_le m f; have := drop_len_le m t; omega)
  have HAt : Hid (cutAt a f t = if f < a then max f (a - (t - f)) else a) := Lib.hid rfl
  clear HcA
  generalize cutA m a f t = ca at *
  generalize cutS m f t = cS at *
  generalize goneS m f t = gS at *
  generalize m.take f = t1 at *
  generalize m.drop t = t2 at *
  generalize cutAt a f t = at' at *
  have hszm := bs_size m
  have hszc := bs_size cS
  have hi0 : (0 : Int) ≤ (f : Int) := by omega
  have hi1 : (f : Int) ≤ (m.length : Int) := by omega
  have hi2 : (0 : Int) ≤ (t : Int) := by omega
  have hi3 : (t : Int) ≤ (m.length : Int) := by omega
  have hi4 : (f : Int) ≤ (t : Int) := by omega
  have k0 : Below w.heap.size w ((w.alloc (.cells #[.string (bs l), .int .i64 n] 24)).alloc (.cells #[.string ⟨#[]⟩, .int .i64 0] 24)) := ((Below.refl _ w).alloc (Nat.le_refl _) _).alloc (by simp) _
  have b0 := (Bx.new w 24 (.string (bs l)) (.int .i64 n)).alloc (.cells #[.string ⟨#[]⟩, .int .i64 0] 24)
  have r0 := Bx.new (w.alloc (.cells #[.string (bs l), .int .i64 n] 24)) 24 (.string ⟨#[]⟩) (.int .i64 0)
  rw [World.size_alloc] at r0
  have c00 := b0.c0
  have c01 := b0.c1
  have hd : decide ((t : Int) ≤ (f : Int)) = false := decide_eq_false (by omega)
  go_enter Tryz.func23, Tryz.ntmps23
  go_wp2_with fail
  refine (HM.out _).mono ?_
  rintro e w1 ⟨rfl, hb1⟩
  have k1 := k0.trans (hb1.mono k0.size)
  have b1 := b0.below hb1
  have r1 := r0.below hb1
  clear hb1 c00 c01 b0 r0 k0
  have c10 := b1.c0
  have c11 := b1.c1
  have f10 := b1.f0
  have f11 := b1.f1
  have b3 := (b1.set0 (.string (bs m))).set1 (.int .i64 (a : Int))
  have r3 := (r1.other (i := 0) (Nat.succ_ne_self _) (.string (bs m))).other (i := 1) (Nat.succ_ne_self _) (.int .i64 (a : Int))
  have k3 := (k1.setCell (p := ⟨w.heap.size, 0, none⟩) (Nat.le_refl _) (.string (bs m))).setCell (p := ⟨w.heap.size, 1, none⟩) (Nat.le_refl _) (.int .i64 (a : Int))
  have B3 := Lib.hid b3
  have R3 := Lib.hid r3
  have K3 := Lib.hid k3
  clear b3 r3 k3 b1 r1 k1
  go_wp2_with fail
  refine (HB1.out _).mono ?_
  rintro e w4 ⟨rfl, hb4⟩
  have k4 := K3.out.trans (hb4.mono K3.out.size)
  have b4 := B3.out.below hb4
  have r4 := R3.out.below hb4
  clear hb4 c10 c11 f10 f11
  have c40 := b4.c0
  have c41 := b4.c1
  go_wp2_with fail
  refine (HB2.out _).mono ?_
  rintro e w5 ⟨rfl, hb5⟩
  have k5 := k4.trans (hb5.mono k4.size)
  have b5 := b4.below hb5
  have r5 := r4.below hb5
  clear hb5 k4 b4 r4 c40 c41
  have c50 := b5.c0
  have c51 := b5.c1
  have K5 := Lib.hid k5
  have R5 := Lib.hid r5
  have B5 := Lib.hid b5
  clear k5 r5 b5
  go_wp2_with fail
  go_quiet (fail)
  have K6a := Lib.hid (bel_drewN K5.out nq)
  have B6a := Lib.hid (B5.out.drewN nq)
  have R6a := Lib.hid (R5.out.drewN nq)
  clear K5 B5 R5
  by_cases hta : t < a
  · have hdt : decide ((t : Int) < (a : Int)) = true := decide_eq_true (by omega)
    have hw1 : IntKind.i64.wrap ((t : Int) - (f : Int)) = (t : Int) - (f : Int) := IntWalk.i64_in _ (by omega)
    have hw2 : IntKind.i64.wrap ((a : Int) - ((t : Int) - (f : Int))) = (a : Int) - ((t : Int) - (f : Int)) := IntWalk.i64_in _ (by omega)
    have hmx : (a : Int) - ((t : Int) - (f : Int)) = (at' : Int) := by rw [HAt.out, if_pos (by omega)]; omega
    go_wp2_with fail
    generalize w5.drewN nq = W6 at *
    have K6 := Lib.hid (K6a.out.drew)
    have B6 := Lib.hid (B6a.out.drew)
    have R6 := Lib.hid (R6a.out.drew)
    refine wp_region_held_drew (S := (fun w' => w'.cell? ⟨w.heap.size, 0, none⟩ = some (.string (bs m)) ∧ w'.cell? ⟨w.heap.size, 1, none⟩ = some (.int .i64 (a : Int)))) (by kernel_rfl) ⟨B6.out.c0, B6.out.c1⟩ (fun hHeld => ?_)
    refine wpAnyH_take (i := 0) (oi := ⟨some 50, _, _, _, _, _⟩) (v := ?_) rfl (by kernel_rfl) (by kernel_rfl) (by kernel_rfl) (fun _ _ _ h => h) (Or.inl ⟨by kernel_rfl, ?hy0⟩) (by assumption) ?_
    case hy0 => (intro w' hSw; (try dsimp only at hSw); go_simp; try with_reducible rfl)
    simp only [Act.put, List.setIfInBounds_toArray, List.set_cons_zero, List.set_cons_succ]
    refine wpAnyH_take (i := 1) (oi := ⟨some 51, _, _, _, _, _⟩) (v := ?_) rfl (by kernel_rfl) (by kernel_rfl) (by kernel_rfl) (fun _ _ _ h => h) (Or.inl ⟨by kernel_rfl, ?hy1⟩) (by assumption) ?_
    case hy1 => (intro w' hSw; (try dsimp only at hSw); go_simp; try with_reducible rfl)
    simp only [Act.put, List.setIfInBounds_toArray, List.set_cons_zero, List.set_cons_succ]
    refine wpAnyH_take (i := 2) (oi := ⟨some 52, _, _, _, _, _⟩) (v := ?_) rfl (by kernel_rfl) (by kernel_rfl) (by kernel_rfl) (fun _ _ _ h => h) (Or.inl ⟨by kernel_rfl, ?hy2⟩) (by assumption) ?_
    case hy2 => (intro w' hSw; (try dsimp only at hSw); go_simp; try with_reducible rfl)
    simp only [Act.put, List.setIfInBounds_toArray, List.set_cons_zero, List.set_cons_succ]
    refine wpAnyH_take (i := 5) (oi := ⟨some 55, _, _, _, _, _⟩) (v := ?_) rfl (by kernel_rfl) (by kernel_rfl) (by kernel_rfl) (fun _ _ _ h => h) (Or.inl ⟨by kernel_rfl, ?hy5⟩) (by assumption) ?_
    case hy5 => (intro w' hSw; (try dsimp only at hSw); go_simp; try with_reducible rfl)
    simp only [Act.put, List.setIfInBounds_toArray, List.set_cons_zero, List.set_cons_succ]
    refine wpAnyH_take (i := 6) (oi := ⟨some 56, _, _, _, _, _⟩) (v := ?_) rfl (by kernel_rfl) (by kernel_rfl) (by kernel_rfl) (fun _ _ _ h => h) (Or.inl ⟨by kernel_rfl, ?hy6⟩) (by assumption) ?_
    case hy6 => (intro w' hSw; (try dsimp only at hSw); go_simp; try with_reducible rfl)
    simp only [Act.put, List.setIfInBounds_toArray, List.set_cons_zero, List.set_cons_succ]
    refine wpAnyH_take (i := 7) (oi := ⟨some 57, _, _, _, _, _⟩) (v := ?_) rfl (by kernel_rfl) (by kernel_rfl) (by kernel_rfl) (fun _ _ _ h => h) (Or.inl ⟨by kernel_rfl, ?hy7⟩) (by assumption) ?_
    case hy7 => (intro w' hSw; (try dsimp only at hSw); go_simp; try with_reducible rfl)
    simp only [Act.put, List.setIfInBounds_toArray, List.set_cons_zero, List.set_cons_succ]
    refine wpAnyH_take (i := 8) (oi := ⟨some 58, _, _, _, _, _⟩) (v := ?_) rfl (by kernel_rfl) (by kernel_rfl) (by kernel_rfl) (fun _ _ _ h => h) (Or.inl ⟨by kernel_rfl, ?hy8⟩) (by assumption) ?_
    case hy8 => (intro w' hSw; (try dsimp only at hSw); go_simp; try with_reducible rfl)
    simp only [Act.put, List.setIfInBounds_toArray, List.set_cons_zero, List.set_cons_succ]
    refine wpAnyH_take (i := 9) (oi := ⟨some 59, _, _, _, _, _⟩) (v := ?_) rfl (by kernel_rfl) (by kernel_rfl) (by kernel_rfl) (fun _ _ _ h => h) (Or.inl ⟨by kernel_rfl, ?hy9⟩) (by assumption) ?_
    case hy9 => (intro w' hSw; (try dsimp only at hSw); go_simp; try with_reducible rfl)
    simp only [Act.put, List.setIfInBounds_toArray, List.set_cons_zero, List.set_cons_succ]
    refine wpAnyH_ready (rs := [3]) (by kernel_rfl) (by simp) ?_
    refine AllReadyH.cons (o := ⟨some 53, _, _, _, _, _⟩) rfl (fun K hK => ?_) AllReadyH.nil
    (rw [if_pos (by kernel_rfl)])
    go_simp
    (refine (HB3.out _).mono ?_; rintro e w7 ⟨rfl, hb7⟩; have k7 := K6.out.trans (hb7.mono K6.out.size); have b7 := B6.out.below hb7; have r7 := R6.out.below hb7; have r70 := r7.c0; have r71 := r7.c1; have q70 := r7.f0; have q71 := r7.f1)
    refine hK.out _ _ ⟨b7.c0, b7.c1⟩ (fun hHeld => ?_)
    clear hK K
    refine wpAnyH_take (i := 4) (oi := ⟨some 54, _, _, _, _, _⟩) (v := ?_) rfl (by kernel_rfl) (by kernel_rfl) (by kernel_rfl) (fun _ _ _ h => h) (Or.inl ⟨by kernel_rfl, ?hy4⟩) (by assumption) ?_
    case hy4 => (intro w' hSw; (try dsimp only at hSw); go_simp; try with_reducible rfl)
    simp only [Act.put, List.setIfInBounds_toArray, List.set_cons_zero, List.set_cons_succ]
    refine wpAnyH_ready (rs := [10]) (by kernel_rfl) (by simp) ?_
    refine AllReadyH.cons (o := ⟨none, _, _, _, _, _⟩) rfl (fun K hK => ?_) AllReadyH.nil
    (rw [if_pos (by kernel_rfl)])
    go_simp
    refine hK.out _ _ ⟨((b7.other (i := 0) (Nat.ne_of_lt (Nat.lt_succ_self _)) _).other (i := 1) (Nat.ne_of_lt (Nat.lt_succ_self _)) _).c0, ((b7.other (i := 0) (Nat.ne_of_lt (Nat.lt_succ_self _)) _).other (i := 1) (Nat.ne_of_lt (Nat.lt_succ_self _)) _).c1⟩ (fun hHeld => ?_)
    clear hK K
    refine wpAnyH_take (i := 11) (oi := ⟨some 7, _, _, _, _, _⟩) (v := ?_) rfl (by kernel_rfl) (by kernel_rfl) (by kernel_rfl) (fun _ _ _ h => h) (Or.inl ⟨by kernel_rfl, ?hy11⟩) (by assumption) ?_
    case hy11 => (intro w' hSw; (try dsimp only at hSw); go_simp; try with_reducible rfl)
    simp only [Act.put, List.setIfInBounds_toArray, List.set_cons_zero, List.set_cons_succ]
    refine wpAnyH_done (by kernel_rfl) ?_ _
    have K7 := Lib.hid k7
    have R7 := Lib.hid r7
    go_wp2
    refine bodyPost_ret (results_bx2 rfl _ _ (w.heap.size + 1) (.string (bs cS)) (.int .i64 (ca : Int)) 24 rfl ((R7.out.set0 _).set1 _) Tryz.underlying24 (sizeRBuf _)) rfl ?_
    exact ⟨rfl, (K7.out.setCell (p := ⟨w.heap.size + 1, 0, none⟩) (Nat.le_succ _) _).setCell (p := ⟨w.heap.size + 1, 1, none⟩) (Nat.le_succ _) _⟩
  · have hdt : decide ((t : Int) < (a : Int)) = false := decide_eq_false (by omega)
    by_cases hfa : f < a
    · have hdf : decide ((f : Int) < (a : Int)) = true := decide_eq_true (by omega)
      obtain rfl : f = at' := by rw [HAt.out, if_pos hfa]; omega
      go_wp2_with fail
      generalize w5.drewN nq = W6 at *
      have K6 := Lib.hid (K6a.out.drew)
      have B6 := Lib.hid (B6a.out.drew)
      have R6 := Lib.hid (R6a.out.drew)
      refine wp_region_held_drew (S := (fun w' => w'.cell? ⟨w.heap.size, 0, none⟩ = some (.string (bs m)) ∧ w'.cell? ⟨w.heap.size, 1, none⟩ = some (.int .i64 (a : Int)))) (by kernel_rfl) ⟨B6.out.c0, B6.out.c1⟩ (fun hHeld => ?_)
      refine wpAnyH_take (i := 0) (oi := ⟨some 50, _, _, _, _, _⟩) (v := ?_) rfl (by kernel_rfl) (by kernel_rfl) (by kernel_rfl) (fun _ _ _ h => h) (Or.inl ⟨by kernel_rfl, ?hy0⟩) (by assumption) ?_
      case hy0 => (intro w' hSw; (try dsimp only at hSw); go_simp; try with_reducible rfl)
      simp only [Act.put, List.setIfInBounds_toArray, List.set_cons_zero, List.set_cons_succ]
      refine wpAnyH_take (i := 1) (oi := ⟨some 51, _, _, _, _, _⟩) (v := ?_) rfl (by kernel_rfl) (by kernel_rfl) (by kernel_rfl) (fun _ _ _ h => h) (Or.inl ⟨by kernel_rfl, ?hy1⟩) (by assumption) ?_
      case hy1 => (intro w' hSw; (try dsimp only at hSw); go_simp; try with_reducible rfl)
      simp only [Act.put, List.setIfInBounds_toArray, List.set_cons_zero, List.set_cons_succ]
      refine wpAnyH_take (i := 2) (oi := ⟨some 52, _, _, _, _, _⟩) (v := ?_) rfl (by kernel_rfl) (by kernel_rfl) (by kernel_rfl) (fun _ _ _ h => h) (Or.inl ⟨by kernel_rfl, ?hy2⟩) (by assumption) ?_
      case hy2 => (intro w' hSw; (try dsimp only at hSw); go_simp; try with_reducible rfl)
      simp only [Act.put, List.setIfInBounds_toArray, List.set_cons_zero, List.set_cons_succ]
      refine wpAnyH_take (i := 5) (oi := ⟨some 55, _, _, _, _, _⟩) (v := ?_) rfl (by kernel_rfl) (by kernel_rfl) (by kernel_rfl) (fun _ _ _ h => h) (Or.inl ⟨by kernel_rfl, ?hy5⟩) (by assumption) ?_
      case hy5 => (intro w' hSw; (try dsimp only at hSw); go_simp; try with_reducible rfl)
      simp only [Act.put, List.setIfInBounds_toArray, List.set_cons_zero, List.set_cons_succ]
      refine wpAnyH_take (i := 6) (oi := ⟨some 56, _, _, _, _, _⟩) (v := ?_) rfl (by kernel_rfl) (by kernel_rfl) (by kernel_rfl) (fun _ _ _ h => h) (Or.inl ⟨by kernel_rfl, ?hy6⟩) (by assumption) ?_
      case hy6 => (intro w' hSw; (try dsimp only at hSw); go_simp; try with_reducible rfl)
      simp only [Act.put, List.setIfInBounds_toArray, List.set_cons_zero, List.set_cons_succ]
      refine wpAnyH_take (i := 7) (oi := ⟨some 57, _, _, _, _, _⟩) (v := ?_) rfl (by kernel_rfl) (by kernel_rfl) (by kernel_rfl) (fun _ _ _ h => h) (Or.inl ⟨by kernel_rfl, ?hy7⟩) (by assumption) ?_
      case hy7 => (intro w' hSw; (try dsimp only at hSw); go_simp; try with_reducible rfl)
      simp only [Act.put, List.setIfInBounds_toArray, List.set_cons_zero, List.set_cons_succ]
      refine wpAnyH_take (i := 8) (oi := ⟨some 58, _, _, _, _, _⟩) (v := ?_) rfl (by kernel_rfl) (by kernel_rfl) (by kernel_rfl) (fun _ _ _ h => h) (Or.inl ⟨by kernel_rfl, ?hy8⟩) (by assumption) ?_
      case hy8 => (intro w' hSw; (try dsimp only at hSw); go_simp; try with_reducible rfl)
      simp only [Act.put, List.setIfInBounds_toArray, List.set_cons_zero, List.set_cons_succ]
      refine wpAnyH_take (i := 9) (oi := ⟨some 59, _, _, _, _, _⟩) (v := ?_) rfl (by kernel_rfl) (by kernel_rfl) (by kernel_rfl) (fun _ _ _ h => h) (Or.inl ⟨by kernel_rfl, ?hy9⟩) (by assumption) ?_
      case hy9 => (intro w' hSw; (try dsimp only at hSw); go_simp; try with_reducible rfl)
      simp only [Act.put, List.setIfInBounds_toArray, List.set_cons_zero, List.set_cons_succ]
      refine wpAnyH_ready (rs := [3]) (by kernel_rfl) (by simp) ?_
      refine AllReadyH.cons (o := ⟨some 53, _, _, _, _, _⟩) rfl (fun K hK => ?_) AllReadyH.nil
      (rw [if_pos (by kernel_rfl)])
      go_simp
      (refine (HB3.out _).mono ?_; rintro e w7 ⟨rfl, hb7⟩; have k7 := K6.out.trans (hb7.mono K6.out.size); have b7 := B6.out.below hb7; have r7 := R6.out.below hb7; have r70 := r7.c0; have r71 := r7.c1; have q70 := r7.f0; have q71 := r7.f1)
      refine hK.out _ _ ⟨b7.c0, b7.c1⟩ (fun hHeld => ?_)
      clear hK K
      refine wpAnyH_take (i := 4) (oi := ⟨some 54, _, _, _, _, _⟩) (v := ?_) rfl (by kernel_rfl) (by kernel_rfl) (by kernel_rfl) (fun _ _ _ h => h) (Or.inl ⟨by kernel_rfl, ?hy4⟩) (by assumption) ?_
      case hy4 => (intro w' hSw; (try dsimp only at hSw); go_simp; try with_reducible rfl)
      simp only [Act.put, List.setIfInBounds_toArray, List.set_cons_zero, List.set_cons_succ]
      refine wpAnyH_ready (rs := [10]) (by kernel_rfl) (by simp) ?_
      refine AllReadyH.cons (o := ⟨none, _, _, _, _, _⟩) rfl (fun K hK => ?_) AllReadyH.nil
      (rw [if_pos (by kernel_rfl)])
      go_simp
      refine hK.out _ _ ⟨((b7.other (i := 0) (Nat.ne_of_lt (Nat.lt_succ_self _)) _).other (i := 1) (Nat.ne_of_lt (Nat.lt_succ_self _)) _).c0, ((b7.other (i := 0) (Nat.ne_of_lt (Nat.lt_succ_self _)) _).other (i := 1) (Nat.ne_of_lt (Nat.lt_succ_self _)) _).c1⟩ (fun hHeld => ?_)
      clear hK K
      refine wpAnyH_take (i := 11) (oi := ⟨some 7, _, _, _, _, _⟩) (v := ?_) rfl (by kernel_rfl) (by kernel_rfl) (by kernel_rfl) (fun _ _ _ h => h) (Or.inl ⟨by kernel_rfl, ?hy11⟩) (by assumption) ?_
      case hy11 => (intro w' hSw; (try dsimp only at hSw); go_simp; try with_reducible rfl)
      simp only [Act.put, List.setIfInBounds_toArray, List.set_cons_zero, List.set_cons_succ]
      refine wpAnyH_done (by kernel_rfl) ?_ _
      have K7 := Lib.hid k7
      have R7 := Lib.hid r7
      go_wp2
      refine bodyPost_ret (results_bx2 rfl _ _ (w.heap.size + 1) (.string (bs cS)) (.int .i64 (ca : Int)) 24 rfl ((R7.out.set0 _).set1 _) Tryz.underlying24 (sizeRBuf _)) rfl ?_
      exact ⟨rfl, (K7.out.setCell (p := ⟨w.heap.size + 1, 0, none⟩) (Nat.le_succ _) _).setCell (p := ⟨w.heap.size + 1, 1, none⟩) (Nat.le_succ _) _⟩
    · have hdf : decide ((f : Int) < (a : Int)) = false := decide_eq_false (by omega)
      obtain rfl : a = at' := by rw [HAt.out, if_neg hfa]
      go_wp2_with fail
      generalize w5.drewN nq = W6 at *
      have K6 := Lib.hid (K6a.out.drew)
      have B6 := Lib.hid (B6a.out.drew)
      have R6 := Lib.hid (R6a.out.drew)
      refine wp_region_held_drew (S := (fun w' => w'.cell? ⟨w.heap.size, 0, none⟩ = some (.string (bs m)) ∧ w'.cell? ⟨w.heap.size, 1, none⟩ = some (.int .i64 (a : Int)))) (by kernel_rfl) ⟨B6.out.c0, B6.out.c1⟩ (fun hHeld => ?_)
      refine wpAnyH_take (i := 0) (oi := ⟨some 50, _, _, _, _, _⟩) (v := ?_) rfl (by kernel_rfl) (by kernel_rfl) (by kernel_rfl) (fun _ _ _ h => h) (Or.inl ⟨by kernel_rfl, ?hy0⟩) (by assumption) ?_
      case hy0 => (intro w' hSw; (try dsimp only at hSw); go_simp; try with_reducible rfl)
      simp only [Act.put, List.setIfInBounds_toArray, List.set_cons_zero, List.set_cons_succ]
      refine wpAnyH_take (i := 1) (oi := ⟨some 51, _, _, _, _, _⟩) (v := ?_) rfl (by kernel_rfl) (by kernel_rfl) (by kernel_rfl) (fun _ _ _ h => h) (Or.inl ⟨by kernel_rfl, ?hy1⟩) (by assumption) ?_
      case hy1 => (intro w' hSw; (try dsimp only at hSw); go_simp; try with_reducible rfl)
      simp only [Act.put, List.setIfInBounds_toArray, List.set_cons_zero, List.set_cons_succ]
      refine wpAnyH_take (i := 2) (oi := ⟨some 52, _, _, _, _, _⟩) (v := ?_) rfl (by kernel_rfl) (by kernel_rfl) (by kernel_rfl) (fun _ _ _ h => h) (Or.inl ⟨by kernel_rfl, ?hy2⟩) (by assumption) ?_
      case hy2 => (intro w' hSw; (try dsimp only at hSw); go_simp; try with_reducible rfl)
      simp only [Act.put, List.setIfInBounds_toArray, List.set_cons_zero, List.set_cons_succ]
      refine wpAnyH_take (i := 5) (oi := ⟨some 55, _, _, _, _, _⟩) (v := ?_) rfl (by kernel_rfl) (by kernel_rfl) (by kernel_rfl) (fun _ _ _ h => h) (Or.inl ⟨by kernel_rfl, ?hy5⟩) (by assumption) ?_
      case hy5 => (intro w' hSw; (try dsimp only at hSw); go_simp; try with_reducible rfl)
      simp only [Act.put, List.setIfInBounds_toArray, List.set_cons_zero, List.set_cons_succ]
      refine wpAnyH_take (i := 6) (oi := ⟨some 56, _, _, _, _, _⟩) (v := ?_) rfl (by kernel_rfl) (by kernel_rfl) (by kernel_rfl) (fun _ _ _ h => h) (Or.inl ⟨by kernel_rfl, ?hy6⟩) (by assumption) ?_
      case hy6 => (intro w' hSw; (try dsimp only at hSw); go_simp; try with_reducible rfl)
      simp only [Act.put, List.setIfInBounds_toArray, List.set_cons_zero, List.set_cons_succ]
      refine wpAnyH_take (i := 7) (oi := ⟨some 57, _, _, _, _, _⟩) (v := ?_) rfl (by kernel_rfl) (by kernel_rfl) (by kernel_rfl) (fun _ _ _ h => h) (Or.inl ⟨by kernel_rfl, ?hy7⟩) (by assumption) ?_
      case hy7 => (intro w' hSw; (try dsimp only at hSw); go_simp; try with_reducible rfl)
      simp only [Act.put, List.setIfInBounds_toArray, List.set_cons_zero, List.set_cons_succ]
      refine wpAnyH_take (i := 8) (oi := ⟨some 58, _, _, _, _, _⟩) (v := ?_) rfl (by kernel_rfl) (by kernel_rfl) (by kernel_rfl) (fun _ _ _ h => h) (Or.inl ⟨by kernel_rfl, ?hy8⟩) (by assumption) ?_
      case hy8 => (intro w' hSw; (try dsimp only at hSw); go_simp; try with_reducible rfl)
      simp only [Act.put, List.setIfInBounds_toArray, List.set_cons_zero, List.set_cons_succ]
      refine wpAnyH_take (i := 9) (oi := ⟨some 59, _, _, _, _, _⟩) (v := ?_) rfl (by kernel_rfl) (by kernel_rfl) (by kernel_rfl) (fun _ _ _ h => h) (Or.inl ⟨by kernel_rfl, ?hy9⟩) (by assumption) ?_
      case hy9 => (intro w' hSw; (try dsimp only at hSw); go_simp; try with_reducible rfl)
      simp only [Act.put, List.setIfInBounds_toArray, List.set_cons_zero, List.set_cons_succ]
      refine wpAnyH_ready (rs := [3]) (by kernel_rfl) (by simp) ?_
      refine AllReadyH.cons (o := ⟨some 53, _, _, _, _, _⟩) rfl (fun K hK => ?_) AllReadyH.nil
      (rw [if_pos (by kernel_rfl)])
      go_simp
      (refine (HB3.out _).mono ?_; rintro e w7 ⟨rfl, hb7⟩; have k7 := K6.out.trans (hb7.mono K6.out.size); have b7 := B6.out.below hb7; have r7 := R6.out.below hb7; have r70 := r7.c0; have r71 := r7.c1; have q70 := r7.f0; have q71 := r7.f1)
      refine hK.out _ _ ⟨b7.c0, b7.c1⟩ (fun hHeld => ?_)
      clear hK K
      refine wpAnyH_take (i := 4) (oi := ⟨some 54, _, _, _, _, _⟩) (v := ?_) rfl (by kernel_rfl) (by kernel_rfl) (by kernel_rfl) (fun _ _ _ h => h) (Or.inl ⟨by kernel_rfl, ?hy4⟩) (by assumption) ?_
      case hy4 => (intro w' hSw; (try dsimp only at hSw); go_simp; try with_reducible rfl)
      simp only [Act.put, List.setIfInBounds_toArray, List.set_cons_zero, List.set_cons_succ]
      refine wpAnyH_ready (rs := [10]) (by kernel_rfl) (by simp) ?_
      refine AllReadyH.cons (o := ⟨none, _, _, _, _, _⟩) rfl (fun K hK => ?_) AllReadyH.nil
      (rw [if_pos (by kernel_rfl)])
      go_simp
      refine hK.out _ _ ⟨((b7.other (i := 0) (Nat.ne_of_lt (Nat.lt_succ_self _)) _).other (i := 1) (Nat.ne_of_lt (Nat.lt_succ_self _)) _).c0, ((b7.other (i := 0) (Nat.ne_of_lt (Nat.lt_succ_self _)) _).other (i := 1) (Nat.ne_of_lt (Nat.lt_succ_self _)) _).c1⟩ (fun hHeld => ?_)
      clear hK K
      refine wpAnyH_take (i := 11) (oi := ⟨some 7, _, _, _, _, _⟩) (v := ?_) rfl (by kernel_rfl) (by kernel_rfl) (by kernel_rfl) (fun _ _ _ h => h) (Or.inl ⟨by kernel_rfl, ?hy11⟩) (by assumption) ?_
      case hy11 => (intro w' hSw; (try dsimp only at hSw); go_simp; try with_reducible rfl)
      simp only [Act.put, List.setIfInBounds_toArray, List.set_cons_zero, List.set_cons_succ]
      refine wpAnyH_done (by kernel_rfl) ?_ _
      have K7 := Lib.hid k7
      have R7 := Lib.hid r7
      go_wp2
      refine bodyPost_ret (results_bx2 rfl _ _ (w.heap.size + 1) (.string (bs cS)) (.int .i64 (ca : Int)) 24 rfl ((R7.out.set0 _).set1 _) Tryz.underlying24 (sizeRBuf _)) rfl ?_
      exact ⟨rfl, (K7.out.setCell (p := ⟨w.heap.size + 1, 0, none⟩) (Nat.le_succ _) _).setCell (p := ⟨w.heap.size + 1, 1, none⟩) (Nat.le_succ _) _⟩
theorem rcutT_calls (l : List UInt8) (n x y : Int) (hl : l.length ≤ 137438953472) (w : World) :
    Calls Tryz.prog 23 #[.agg #[.string (bs l), .int .i64 n], .int .i64 x, .int .i64 y] w fun e w' => e = .returned (.tuple #[.agg #[.string (bs (cutR (mS l) (mA l n) (backL (mS l) x) (backL (mS l) y)).1), .int .i64 ((cutR (mS l) (mA l n) (backL (mS l) x) (backL (mS l) y)).2.1 : Int)], .string (bs (cutR (mS l) (mA l n) (backL (mS l) x) (backL (mS l) y)).2.2)]) ∧ Below w.heap.size w w' := by
  unfold cutR
  by_cases h : backL (mS l) x < backL (mS l) y
  · rw [if_pos h]
    dsimp only
    exact rcutT_ok l n x y hl w h
  · rw [if_neg h]
    dsimp only
    rw [show bs [] = (⟨#[]⟩ : ByteArray) from rfl]
    exact rcutT_no l n x y hl w (by omega)
end
section
open Go Go.RowKit
set_option maxHeartbeats 4000000 in
theorem rinsert_ok (l s : List UInt8) (n : Int) (hl : l.length ≤ 137438953472) (hs : s.length ≤ 137438953472) (w : World) (h6 : (mS l).length + (plainL s).length ≤ 600) :
    Calls Tryz.prog 24 #[.agg #[.string (bs l), .int .i64 n], .string (bs s)] w fun e w' => e = .returned (.tuple #[.agg #[.string (bs (insS (mS l) (mA l n) (plainL s))), .int .i64 (insA (mS l) (mA l n) (plainL s) : Int)], .bool true]) ∧ Below w.heap.size w w' := by
  have HM := Lib.hid (fun W => rmake_calls l n hl W)
  have HP := Lib.hid (fun W => rplain_calls s hs W)
  have ha := mA_le l n
  have hil := insS_length (mS l) (mA l n) (plainL s) ha
  have HO := Lib.hid (fun W => ron_calls (insS (mS l) (mA l n) (plainL s)) ((mA l n + (plainL s).length : Nat) : Int) (by omega) W)
  have HiA : Hid (onL (insS (mS l) (mA l n) (plainL s)) ((mA l n + (plainL s).length : Nat) : Int) = insA (mS l) (mA l n) (plainL s)) := Lib.hid rfl
  have hx1 := bs_take (mS l) (mA l n)
  have hx2 := bs_drop (mS l) (mA l n)
  have hp1 := add_bs Tryz.prog ((mS l).take (mA l n)) (plainL s) (by have := take_len_le (mS l) (mA l n); omega)
  have hp2 : ∀ W : World, (Op.stringOp .add (bs ((mS l).take (mA l n) ++ plainL s)) (bs ((mS l).drop (mA l n)))).run Tryz.prog W = .ok (.string (bs (insS (mS l) (mA l n) (plainL s)))) W :=
    add_bs Tryz.prog ((mS l).take (mA l n) ++ plainL s) ((mS l).drop (mA l n)) (by have := take_len_le (mS l) (mA l n); have := drop_len_le (mS l) (mA l n); rw [List.length_append]; omega)
  rw [HiA.out] at HO
  clear HiA
  generalize insA (mS l) (mA l n) (plainL s) = x at *
  generalize insS (mS l) (mA l n) (plainL s) = whole at *
  generalize (mS l).take (mA l n) ++ plainL s = t3 at *
  generalize (mS l).take (mA l n) = t1 at *
  generalize (mS l).drop (mA l n) = t2 at *
  generalize mA l n = a at *
  generalize mS l = m at *
  generalize plainL s = p at *
  have hszm := bs_size m
  have hszp := bs_size p
  have k0 : Below w.heap.size w ((w.alloc (.cells #[.string (bs l), .int .i64 n] 24)).alloc (.cells #[.string ⟨#[]⟩, .int .i64 0] 24)) := ((Below.refl _ w).alloc (Nat.le_refl _) _).alloc (by simp) _
  have b0 := (Bx.new w 24 (.string (bs l)) (.int .i64 n)).alloc (.cells #[.string ⟨#[]⟩, .int .i64 0] 24)
  have r0 := Bx.new (w.alloc (.cells #[.string (bs l), .int .i64 n] 24)) 24 (.string ⟨#[]⟩) (.int .i64 0)
  rw [World.size_alloc] at r0
  have c00 := b0.c0
  have c01 := b0.c1
  have hi0 : (0 : Int) ≤ (a : Int) := by omega
  have hi1 : (a : Int) ≤ (m.length : Int) := by omega
  have hw1 : IntKind.i64.wrap ((m.length : Int) + (p.length : Int)) = (m.length : Int) + (p.length : Int) := IntWalk.i64_in _ (by omega)
  have hw2 : IntKind.i64.wrap ((a : Int) + (p.length : Int)) = (a : Int) + (p.length : Int) := IntWalk.i64_in _ (by omega)
  have hd6 : decide ((600 : Int) < (m.length : Int) + (p.length : Int)) = false := decide_eq_false (by omega)
  have hcast : ((a + p.length : Nat) : Int) = (a : Int) + (p.length : Int) := by omega
  rw [hcast] at HO
  clear hil hcast
  go_enter Tryz.func24, Tryz.ntmps24
  go_wp2_with fail
  refine (HM.out _).mono ?_
  rintro e w1 ⟨rfl, hb1⟩
  have k1 := k0.trans (hb1.mono k0.size)
  have b1 := b0.below hb1
  have r1 := r0.below hb1
  clear hb1 c00 c01 b0 r0 k0
  have c10 := b1.c0
  have c11 := b1.c1
  have f10 := b1.f0
  have f11 := b1.f1
  have b2 := (b1.set0 (.string (bs m))).set1 (.int .i64 (a : Int))
  have r2 := (r1.other (i := 0) (Nat.succ_ne_self _) (.string (bs m))).other (i := 1) (Nat.succ_ne_self _) (.int .i64 (a : Int))
  have k2 := (k1.setCell (p := ⟨w.heap.size, 0, none⟩) (Nat.le_refl _) (.string (bs m))).setCell (p := ⟨w.heap.size, 1, none⟩) (Nat.le_refl _) (.int .i64 (a : Int))
  have B2 := Lib.hid b2
  have R2 := Lib.hid r2
  have K2 := Lib.hid k2
  clear b1 r1 k1 b2 r2 k2
  go_wp2_with fail
  refine (HP.out _).mono ?_
  rintro e w3 ⟨rfl, hb3⟩
  have k3 := K2.out.trans (hb3.mono K2.out.size)
  have b3 := B2.out.below hb3
  have r3 := R2.out.below hb3
  clear hb3 c10 c11 f10 f11
  have c30 := b3.c0
  have c31 := b3.c1
  have K3 := Lib.hid k3
  have R3 := Lib.hid r3
  have B3 := Lib.hid b3
  clear b3 r3 k3
  go_wp2_with fail
  go_quiet (fail)
  go_wp2_with fail
  refine (HO.out _).mono ?_
  rintro e w5 ⟨rfl, hb5⟩
  have k5 := (bel_drewN K3.out nq).trans (hb5.mono (bel_drewN K3.out nq).size)
  have r5 := (R3.out.drewN nq).below hb5
  have c50 := r5.c0
  have c51 := r5.c1
  have f50 := r5.f0
  have f51 := r5.f1
  have K5 := Lib.hid k5
  have R5 := Lib.hid r5
  clear hb5 r5 k5
  go_wp2
  refine bodyPost_ret (results_bx2 rfl _ _ (w.heap.size + 1) (.string (bs whole)) (.int .i64 (x : Int)) 24 rfl ((R5.out.set0 _).set1 _) Tryz.underlying24 (sizeRBuf _)) rfl ?_
  exact ⟨rfl, (K5.out.setCell (p := ⟨w.heap.size + 1, 0, none⟩) (Nat.le_succ _) _).setCell (p := ⟨w.heap.size + 1, 1, none⟩) (Nat.le_succ _) _⟩
set_option maxHeartbeats 4000000 in
theorem rinsert_no (l s : List UInt8) (n : Int) (hl : l.length ≤ 137438953472) (hs : s.length ≤ 137438953472) (w : World) (h6 : 600 < (mS l).length + (plainL s).length) :
    Calls Tryz.prog 24 #[.agg #[.string (bs l), .int .i64 n], .string (bs s)] w fun e w' => e = .returned (.tuple #[.agg #[.string (bs (mS l)), .int .i64 (mA l n : Int)], .bool false]) ∧ Below w.heap.size w w' := by
  have HM := Lib.hid (fun W => rmake_calls l n hl W)
  have HP := Lib.hid (fun W => rplain_calls s hs W)
  have ha := mA_le l n
  have hms := mS_len l
  have hpl := plain_length s
  generalize mA l n = a at *
  generalize mS l = m at *
  generalize plainL s = p at *
  have hszm := bs_size m
  have hszp := bs_size p
  have k0 : Below w.heap.size w ((w.alloc (.cells #[.string (bs l), .int .i64 n] 24)).alloc (.cells #[.string ⟨#[]⟩, .int .i64 0] 24)) := ((Below.refl _ w).alloc (Nat.le_refl _) _).alloc (by simp) _
  have b0 := (Bx.new w 24 (.string (bs l)) (.int .i64 n)).alloc (.cells #[.string ⟨#[]⟩, .int .i64 0] 24)
  have r0 := Bx.new (w.alloc (.cells #[.string (bs l), .int .i64 n] 24)) 24 (.string ⟨#[]⟩) (.int .i64 0)
  rw [World.size_alloc] at r0
  have c00 := b0.c0
  have c01 := b0.c1
  have hw1 : IntKind.i64.wrap ((m.length : Int) + (p.length : Int)) = (m.length : Int) + (p.length : Int) := IntWalk.i64_in _ (by omega)
  have hd6 : decide ((600 : Int) < (m.length : Int) + (p.length : Int)) = true := decide_eq_true (by omega)
  go_enter Tryz.func24, Tryz.ntmps24
  go_wp2_with fail
  refine (HM.out _).mono ?_
  rintro e w1 ⟨rfl, hb1⟩
  have k1 := k0.trans (hb1.mono k0.size)
  have b1 := b0.below hb1
  have r1 := r0.below hb1
  clear hb1 c00 c01 b0 r0 k0
  have c10 := b1.c0
  have c11 := b1.c1
  have f10 := b1.f0
  have f11 := b1.f1
  have b2 := (b1.set0 (.string (bs m))).set1 (.int .i64 (a : Int))
  have r2 := (r1.other (i := 0) (Nat.succ_ne_self _) (.string (bs m))).other (i := 1) (Nat.succ_ne_self _) (.int .i64 (a : Int))
  have k2 := (k1.setCell (p := ⟨w.heap.size, 0, none⟩) (Nat.le_refl _) (.string (bs m))).setCell (p := ⟨w.heap.size, 1, none⟩) (Nat.le_refl _) (.int .i64 (a : Int))
  have B2 := Lib.hid b2
  have R2 := Lib.hid r2
  have K2 := Lib.hid k2
  clear b1 r1 k1 b2 r2 k2
  go_wp2_with fail
  refine (HP.out _).mono ?_
  rintro e w3 ⟨rfl, hb3⟩
  have k3 := K2.out.trans (hb3.mono K2.out.size)
  have b3 := B2.out.below hb3
  have r3 := R2.out.below hb3
  clear hb3 c10 c11 f10 f11
  have c30 := b3.c0
  have c31 := b3.c1
  have K3 := Lib.hid k3
  have R3 := Lib.hid r3
  have B3 := Lib.hid b3
  clear b3 r3 k3
  have r30 := R3.out.c0
  have r31 := R3.out.c1
  have q30 := R3.out.f0
  have q31 := R3.out.f1
  go_wp2
  refine bodyPost_ret (results_bx2 rfl _ _ (w.heap.size + 1) (.string (bs m)) (.int .i64 (a : Int)) 24 rfl ((R3.out.set0 _).set1 _) Tryz.underlying24 (sizeRBuf _)) rfl ?_
  exact ⟨rfl, (K3.out.setCell (p := ⟨w.heap.size + 1, 0, none⟩) (Nat.le_succ _) _).setCell (p := ⟨w.heap.size + 1, 1, none⟩) (Nat.le_succ _) _⟩
end
end Go.Proofs.YtlmbafnoopfilaaGreatDoor
