/-
  Layer 7 and what it stands on, part 24 (RGrow).
-/
import Derived.Test.YtlmbafnoopfilaaGreatDoorPg23
namespace Go.Proofs.YtlmbafnoopfilaaGreatDoor
section
open Go Go.RowKit
set_option maxRecDepth 100000
theorem rneq (x y : Bf) (W : World) : (binOp .neq 24 (.agg #[.string (bs x.1), .int .i64 (x.2 : Int)]) (.agg #[.string (bs y.1), .int .i64 (y.2 : Int)])).run Tryz.prog W = .ok (.bool (decide (x ≠ y))) W := by
  obtain ⟨a, n⟩ := x
  obtain ⟨b, m⟩ := y
  have h1 := Tryz.underlying24
  have h2 := Tryz.underlying9
  have h3 := Tryz.underlying3
  rw [run_neq_struct]
  go_simp
  by_cases e1 : a = b <;> by_cases e2 : n = m <;> simp [e1, e2] <;> omega
theorem rcutG_calls (m : List UInt8) (a : Nat) (h : Rt m a) (w : World) :
    Calls Tryz.prog 23 #[.agg #[.string (bs m), .int .i64 (a : Int)], .int .i64 (frmL (m, a) : Int), .int .i64 (a : Int)] w fun e w' => ∃ z, e = .returned (.tuple #[.agg #[.string (bs (cutG (m, a)).1), .int .i64 ((cutG (m, a)).2 : Int)], .string z]) ∧ Below w.heap.size w w' := by
  refine (rcutT_calls m (a : Int) (frmL (m, a) : Int) (a : Int) (by have := h.2.1; omega) w).mono ?_
  rintro e w' ⟨rfl, hb⟩
  rw [h.make.1, h.make.2, h.2.2.back]
  exact ⟨_, rfl, hb⟩
theorem rinsG_ok (m : List UInt8) (a : Nat) (h : Rt m a) (t : ByteArray) (ht : t.size ≤ 137438953472) (w : World) (hf : fits (m, a) (plainL (bl t))) :
    Calls Tryz.prog 24 #[.agg #[.string (bs m), .int .i64 (a : Int)], .string t] w fun e w' => e = .returned (.tuple #[.agg #[.string (bs (insB (m, a) (plainL (bl t))).1), .int .i64 ((insB (m, a) (plainL (bl t))).2 : Int)], .bool true]) ∧ Below w.heap.size w w' := by
  have := rinsert_ok m (bl t) (a : Int) (by have := h.2.1; omega) (by unfold bl; simpa using ht) w (by rw [h.make.1]; exact hf)
  rw [h.make.1, h.make.2, bs_bl] at this
  exact this
theorem rinsG_no (m : List UInt8) (a : Nat) (h : Rt m a) (t : ByteArray) (ht : t.size ≤ 137438953472) (w : World) (hf : ¬ fits (m, a) (plainL (bl t))) :
    Calls Tryz.prog 24 #[.agg #[.string (bs m), .int .i64 (a : Int)], .string t] w fun e w' => e = .returned (.tuple #[.agg #[.string (bs m), .int .i64 (a : Int)], .bool false]) ∧ Below w.heap.size w w' := by
  have := rinsert_no m (bl t) (a : Int) (by have := h.2.1; omega) (by unfold bl; simpa using ht) w (by rw [h.make.1]; unfold fits at hf; dsimp only at hf; omega)
  rw [h.make.1, h.make.2, bs_bl] at this
  exact this
set_option maxHeartbeats 8000000 in
theorem rgrow_calls (w : World) (R : Nat → Prop) (A : Option Addr) (c : Nat) (l : List PR) (h : RowT prC w R A l) (hl : l.length ≤ 1000) (hon : Once l) (hsm : ∀ p ∈ l, p.2.size ≤ 137438953472) (x : List UInt8) (n : Int) (hx : x.length ≤ 137438953472) :
    Calls Tryz.prog 8 #[.slice A l.length c, .agg #[.string (bs x), .int .i64 n]] w fun e w' => e = .returned (.tuple #[.agg #[.string (bs (growR l (mS x, mA x n)).1.1), .int .i64 ((growR l (mS x, mA x n)).1.2 : Int)], .bool (growR l (mS x, mA x n)).2]) ∧ Below w.heap.size w w' := by
  obtain ⟨W2, hW2⟩ : ∃ W2, (w.alloc (.cells #[.string (bs x), .int .i64 n] 24)).alloc (.cells #[.string ⟨#[]⟩, .int .i64 0] 24) = W2 := ⟨_, rfl⟩
  have hB2 : Below w.heap.size w W2 := by rw [← hW2]; exact ((Below.refl _ w).alloc (Nat.le_refl _) _).alloc (by rw [World.size_alloc]; omega) _
  have hs2 : W2.heap.size = w.heap.size + 2 := by rw [← hW2, World.size_alloc, World.size_alloc]
  have hb0 : BxA W2 w.heap.size 24 [.string (bs x), .int .i64 n] := by rw [← hW2]; exact (BxA.new w _ _).alloc _
  have hr0 : BxA W2 (w.heap.size + 1) 24 [.string ⟨#[]⟩, .int .i64 0] := by
    rw [← hW2]
    have := BxA.new (w.alloc (.cells #[.string (bs x), .int .i64 n] 24)) 24 [.string ⟨#[]⟩, .int .i64 0]
    rwa [World.size_alloc] at this
  have H := Lib.hid h
  have HOn := Lib.hid hon
  have HSm := Lib.hid hsm
  have HM := Lib.hid (fun W => rmake_calls x n hx W)
  have hrt := make_rt x n
  have ha := hrt.2.2.le
  have HRt := Lib.hid hrt
  have HN := Lib.hid (@growR_none l (mS x, mA x n))
  have HMid := Lib.hid (growR_mid l (mS x, mA x n))
  have HF := Lib.hid (growR_full l (mS x, mA x n))
  have HNow := Lib.hid (growR_now l (mS x, mA x n))
  generalize growR l (mS x, mA x n) = res at *
  generalize mA x n = a at *
  generalize mS x = m at *
  have k0 := hb0.c 0 rfl
  have k1 := hb0.c 1 rfl
  have HB2 := Lib.hid hB2
  have HB0 := Lib.hid hb0
  have HR0 := Lib.hid hr0
  have Hs2 := Lib.hid hs2
  clear h hon hsm hrt hB2 hb0 hr0 hs2
  go_enter Tryz.func8, Tryz.ntmps8
  go_wp2_with fail
  refine (HM.out _).mono ?_
  rintro e w1 ⟨rfl, hb1⟩
  have hx1 := HB0.out.below hb1
  have hr1 := HR0.out.below hb1
  have hB1 := HB2.out.trans (hb1.mono HB2.out.size)
  have e0 := hx1.c 0 rfl
  have e1 := hx1.c 1 rfl
  have f0 := hx1.free 0
  have f1 := hx1.free 1
  obtain ⟨W3, hW3⟩ : ∃ W3, (w1.setCell ⟨w.heap.size, 0, none⟩ (.string (bs m))).setCell ⟨w.heap.size, 1, none⟩ (.int .i64 (a : Int)) = W3 := ⟨_, rfl⟩
  have hx3 : BxA W3 w.heap.size 24 [.string (bs m), .int .i64 (a : Int)] := by rw [← hW3]; exact (hx1.set 0 _).set 1 _
  have hr3 : BxA W3 (w.heap.size + 1) 24 [.string ⟨#[]⟩, .int .i64 0] := by rw [← hW3]; exact (hr1.other (by omega) _).other (by omega) _
  have hB3 : Below w.heap.size w W3 := by rw [← hW3]; exact (hB1.setCell (p := ⟨w.heap.size, 0, none⟩) (Nat.le_refl _) _).setCell (p := ⟨w.heap.size, 1, none⟩) (Nat.le_refl _) _
  have HX3 := Lib.hid hx3
  have HR3 := Lib.hid hr3
  have HB3 := Lib.hid hB3
  have c0 := hx3.c 0 rfl
  have c1 := hx3.c 1 rfl
  have ht := bs_take m a
  have hsz := bs_size m
  clear hx1 hr1 hB1 hb1 hx3 hr3 hB3 HM k0 k1 HB0 HR0 HB2
  have hsp3 := head_split (m, a) ha
  have hfa : frmL (m, a) ≤ a := by unfold frmL; omega
  have hmid : (bs m).extract (frmL (m, a)) a = bs (headL (m, a)) := by
    rw [bs_mid, hsp3.1, List.drop_take]
  obtain ⟨nm, hnm⟩ : ∃ nm, nm = bs (headL (m, a)) := ⟨_, rfl⟩
  rw [← hnm] at HN HMid HF HNow hmid
  have HNm := Lib.hid hnm
  clear hnm
  have HSp := Lib.hid hsp3
  have HMidE := Lib.hid hmid
  have hm6 : m.length ≤ 600 := HRt.out.2.1
  obtain ⟨fr, hfr⟩ : ∃ fr, fr = frmL (m, a) := ⟨_, rfl⟩
  rw [← hfr] at HSp hfa HMidE
  have HFr := Lib.hid hfr
  clear hsp3 hmid hfr ht
  go_wp2_with fail
  clear hW3 e0 e1 f0 f1
  go_loopw [6] (fun v6 wr => ∃ k : Nat, k ≤ fr ∧ v6 = .int .i64 (k : Int) ∧ wr = W3) (fun v6 _ => a - (intOf v6).toNat)
  case atStart => exact ⟨0, Nat.zero_le _, rfl, rfl⟩
  case round =>
    obtain ⟨k, hk, rfl, rfl⟩ := hrel
    have hsz2 : (bs m).size = m.length := hsz
    by_cases hlt : k < fr
    · have h32 := HSp.out.2.1 k hlt
      try dsimp only at h32
      have hkm : k < m.length := by omega
      have hg : ∀ h : k < (bs m).size, ((((bs m)[k]'h).toNat : Int) == 32) = true := fun h => by
        have e : (bs m)[k]'h = m[k] := rfl
        rw [e]
        rw [List.getElem?_eq_getElem hkm] at h32
        injection h32 with h32
        rw [h32]
        rfl
      have hka : (k : Int) < (a : Int) := by omega
      clear h32
      go_wp2_with fail
      go_roundw
      case rel => exact ⟨k + 1, by omega, by go_num, trivial⟩
      case measure => simp [intOf]; omega
    · obtain rfl : k = fr := by omega
      clear hlt hk
      have hq : (k = a) ∨ (k < a ∧ ∀ h : k < (bs m).size, ((((bs m)[k]'h).toNat : Int) == 32) = false) := by
        rcases Nat.eq_or_lt_of_le hfa with h | h
        · exact .inl h
        · refine .inr ⟨h, fun h2 => ?_⟩
          have h3 := HSp.out.2.2 h
          try dsimp only at h3
          have hkm : k < m.length := by omega
          rw [List.getElem?_eq_getElem hkm] at h3
          have e : (bs m)[k]'h2 = m[k] := rfl
          rw [e]
          exact beq_eq_false_iff_ne.2 (fun e => h3 (congrArg some (UInt8.toNat_inj.1 (by rw [show (32 : UInt8).toNat = 32 from rfl]; omega))))
      have HBw := HB3
      have HGe := Lib.hid (fun W (hW : Below wr.heap.size wr W) => rget_calls W R A c l ((H.out.below HB3.out).below hW) (by omega) nm)
      have hmE := HMidE.out
      rcases hq with hq | ⟨hq, hc⟩
      case' inl =>
        have qa : ¬ ((k : Int) < (a : Int)) := by omega
        clear hq
      case' inr =>
        have qa : (k : Int) < (a : Int) := by omega
        have hkm : k < m.length := by omega
      all_goals
        go_wp2_with fail
        refine (HGe.out _ (Below.refl _ _)).mono ?_
        rintro e w5 ⟨rfl, hb5⟩
        have HX5 := Lib.hid (HX3.out.below hb5)
        have HR5 := Lib.hid (HR3.out.below hb5)
        have HB5 := Lib.hid (HB3.out.trans (hb5.mono HB3.out.size))
        clear hb5 HX3 HR3 HB3 c0 c1 HGe hmE HBw
        have c0 := HX5.out.c 0 rfl
        have c1 := HX5.out.c 1 rfl
        have r0 := HR5.out.c 0 rfl
        have r1 := HR5.out.c 1 rfl
        have rf0 := HR5.out.free 0
        have rf1 := HR5.out.free 1
        cases hg : getP l nm with
        | none =>
          have HR := Lib.hid (HN.out hg)
          clear hg HN HMid HF HNow
          go_wp2_with fail
          refine bodyPost_ret (results_bx2 rfl _ _ (w.heap.size + 1) (.string (bs m)) (.int .i64 (a : Int)) 24 rfl ((HR5.out.set 0 _).set 1 _) Tryz.underlying24 (sizeRBuf _)) rfl ?_
          exact ⟨by rw [HR.out]; rfl, (HB5.out.setCell (p := ⟨w.heap.size + 1, 0, none⟩) (Nat.le_succ _) _).setCell (p := ⟨w.heap.size + 1, 1, none⟩) (Nat.le_succ _) _⟩
        | some t =>
          have Ht : Hid (t.size ≤ 137438953472) := Lib.hid (HSm.out (nm, t) ((getP_iff HOn.out).1 hg))
          have HMid := Lib.hid (HMid.out t hg)
          have HF := Lib.hid (HF.out t hg)
          have HNow := Lib.hid (HNow.out t hg)
          clear hg HN
          have hab : (atBlank (m, a) = false ∧ ((a : Int) < (m.length : Int) ∧ ∀ h : a < (bs m).size, ((((bs m)[a]'h).toNat : Int) != 32) = true)) ∨ (atBlank (m, a) = true ∧ (¬ ((a : Int) < (m.length : Int)))) ∨ (atBlank (m, a) = true ∧ ((a : Int) < (m.length : Int) ∧ ∀ h : a < (bs m).size, ((((bs m)[a]'h).toNat : Int) != 32) = false)) := by
            by_cases hal : a < m.length
            · have hat := at_mid hal
              by_cases h32 : m[a] = 32
              · right; right
                refine ⟨by rw [hat, h32]; rfl, by omega, fun h => ?_⟩
                have e : (bs m)[a]'h = m[a] := rfl
                rw [e, h32]
                rfl
              · left
                refine ⟨by rw [hat]; exact beq_eq_false_iff_ne.2 h32, by omega, fun h => ?_⟩
                have e : (bs m)[a]'h = m[a] := rfl
                rw [e]
                exact bne_iff_ne.2 (fun e2 => h32 (UInt8.toNat_inj.1 (by rw [show (32 : UInt8).toNat = 32 from rfl]; omega)))
            · right; left
              have e : a = m.length := by omega
              refine ⟨by rw [e]; exact at_end, by omega⟩
          have hcr := cutG_rt (b := (m, a)) HRt.out
          have HC : Hid (∀ W, Calls Tryz.prog 23 #[.agg #[.string (bs m), .int .i64 (a : Int)], .int .i64 (k : Int), .int .i64 (a : Int)] W fun e w' => ∃ z, e = .returned (.tuple #[.agg #[.string (bs (cutG (m, a)).1), .int .i64 ((cutG (m, a)).2 : Int)], .string z]) ∧ Below W.heap.size W w') := Lib.hid (fun W => by
            rw [HFr.out]
            exact rcutG_calls m a HRt.out W)
          have HI := Lib.hid (fun W => rinsG_ok (cutG (m, a)).1 (cutG (m, a)).2 hcr t Ht.out W)
          have HJ := Lib.hid (fun W => rinsG_no (cutG (m, a)).1 (cutG (m, a)).2 hcr t Ht.out W)
          have hcl : (cutG (m, a)).1.length ≤ 600 := hcr.2.1
          rcases hab with ⟨hab, hal, hch⟩ | ⟨hab, hal⟩ | ⟨hab, hal, hch⟩
          · have HR := Lib.hid (HMid.out hab)
            clear HF HNow HMid hab HC HI HJ hcr hcl
            go_wp2_with fail
            refine bodyPost_ret (results_bx2 rfl _ _ (w.heap.size + 1) (.string (bs m)) (.int .i64 (a : Int)) 24 rfl ((HR5.out.set 0 _).set 1 _) Tryz.underlying24 (sizeRBuf _)) rfl ?_
            exact ⟨by rw [HR.out]; rfl, (HB5.out.setCell (p := ⟨w.heap.size + 1, 0, none⟩) (Nat.le_succ _) _).setCell (p := ⟨w.heap.size + 1, 1, none⟩) (Nat.le_succ _) _⟩
          all_goals
            have HNow := Lib.hid (HNow.out hab)
            clear hab HMid
            generalize cutG (m, a) = cg at *
            obtain ⟨cs, ca⟩ := cg
            dsimp only at HI HJ HC
            go_wp2_with fail
            refine (HC.out _).mono ?_
            rintro e w7 ⟨z, rfl, hb7⟩
            clear c0 c1 r0 r1 rf0 rf1
            have hx7 := HX5.out.below hb7
            have HX7 := Lib.hid hx7
            have HR7 := Lib.hid (HR5.out.below hb7)
            have HB7 := Lib.hid (HB5.out.trans (hb7.mono HB5.out.size))
            have hq7 := BxA.new w7 24 [.string (bs cs), .int .i64 (ca : Int)]
            have HX8 := Lib.hid (HX7.out.alloc (.cells #[.string (bs cs), .int .i64 (ca : Int)] 24))
            have HR8 := Lib.hid (HR7.out.alloc (.cells #[.string (bs cs), .int .i64 (ca : Int)] 24))
            have HB8 := Lib.hid (HB7.out.alloc HB7.out.size (.cells #[.string (bs cs), .int .i64 (ca : Int)] 24))
            obtain ⟨W8, hW8⟩ : ∃ W8, w7.alloc (.cells #[.string (bs cs), .int .i64 (ca : Int)] 24) = W8 := ⟨_, rfl⟩
            rw [hW8] at hq7 HX8 HR8 HB8
            have d0 := hq7.c 0 rfl
            have d1 := hq7.c 1 rfl
            clear hb7 hx7 HC HX5 HR5 HB5 hq7 hcl hfa hm6 qa
            (try clear hsz2)
            (try clear ha)
            (try clear hsz)
            (try clear hal)
            go_wp2_with fail
            by_cases hf : fits (cs, ca) (plainL (bl t))
            · have HR := Lib.hid (HNow.out hf)
              have HI := Lib.hid (HI.out W8 hf)
              clear hf HJ HF HNow
              generalize insB (cs, ca) (plainL (bl t)) = ib at *
              obtain ⟨is, ia⟩ := ib
              refine HI.out.mono ?_
              rintro e w9 ⟨rfl, hb9⟩
              have hx9 := HX8.out.below hb9
              have HX9 := Lib.hid hx9
              have HR9 := Lib.hid (HR8.out.below hb9)
              have HB9 := Lib.hid (HB8.out.trans (hb9.mono HB8.out.size))
              have HXa := Lib.hid (HX9.out.alloc (.cells #[.string (bs is), .int .i64 (ia : Int)] 24))
              have HRa := Lib.hid (HR9.out.alloc (.cells #[.string (bs is), .int .i64 (ia : Int)] 24))
              have HBa := Lib.hid (HB9.out.alloc HB9.out.size (.cells #[.string (bs is), .int .i64 (ia : Int)] 24))
              have hqa := BxA.new w9 24 [.string (bs is), .int .i64 (ia : Int)]
              obtain ⟨Wa, hWa⟩ : ∃ Wa, w9.alloc (.cells #[.string (bs is), .int .i64 (ia : Int)] 24) = Wa := ⟨_, rfl⟩
              rw [hWa] at hqa HXa HRa HBa
              have c0 := HXa.out.c 0 rfl
              have c1 := HXa.out.c 1 rfl
              have r0 := HRa.out.c 0 rfl
              have r1 := HRa.out.c 1 rfl
              have rf0 := HRa.out.free 0
              have rf1 := HRa.out.free 1
              have q0 := hqa.c 0 rfl
              have q1 := hqa.c 1 rfl
              have HR9lt := Lib.hid HR9.out.lt
              have HQa := Lib.hid hqa
              clear hb9 hx9 HX9 HR9 HB9 hqa d0 d1 HX8 HR8 HB8 hW8
              clear HI
              have hne := rneq (is, ia) (m, a)
              dsimp only at hne
              have HD : Hid (res = ((is, ia), decide ((is, ia) ≠ (m, a)))) := HR
              clear HR
              generalize decide ((is, ia) ≠ (m, a)) = q at *
              have hn9 : w.heap.size + 1 < w9.heap.size := HR9lt.out
              have HKEEP : Hid ((fun w' => w'.cell? ⟨w.heap.size, 0, none⟩ = some (.string (bs m)) ∧ w'.cell? ⟨w.heap.size, 1, none⟩ = some (.int .i64 (a : Int)) ∧ w'.cell? ⟨w9.heap.size, 0, none⟩ = some (.string (bs is)) ∧ w'.cell? ⟨w9.heap.size, 1, none⟩ = some (.int .i64 (ia : Int))) ((Wa.setCell ⟨w.heap.size + 1, 0, none⟩ (.string (bs is))).setCell ⟨w.heap.size + 1, 1, none⟩ (.int .i64 (ia : Int))).drew) := Lib.hid (by
                have hx := ((HXa.out.other (g := w.heap.size + 1) (i := 0) (by omega) (.string (bs is))).other (g := w.heap.size + 1) (i := 1) (by omega) (.int .i64 (ia : Int)))
                have hy := ((HQa.out.other (g := w.heap.size + 1) (i := 0) (by omega) (.string (bs is))).other (g := w.heap.size + 1) (i := 1) (by omega) (.int .i64 (ia : Int)))
                exact ⟨hx.c 0 rfl, hx.c 1 rfl, hy.c 0 rfl, hy.c 1 rfl⟩)
              go_upto_region 12 with fail
              refine wp_region_held_drew (S := (fun w' => w'.cell? ⟨w.heap.size, 0, none⟩ = some (.string (bs m)) ∧ w'.cell? ⟨w.heap.size, 1, none⟩ = some (.int .i64 (a : Int)) ∧ w'.cell? ⟨w9.heap.size, 0, none⟩ = some (.string (bs is)) ∧ w'.cell? ⟨w9.heap.size, 1, none⟩ = some (.int .i64 (ia : Int)))) (by kernel_rfl) ⟨c0, c1, q0, q1⟩ (fun hHeld => ?_)
              refine wpAnyH_take (i := 0) (oi := ⟨some 78, _, _, _, _, _⟩) (v := ?_) rfl (by kernel_rfl) (by kernel_rfl) (by kernel_rfl) (fun _ _ _ h => h) (Or.inl ⟨by kernel_rfl, ?hy0⟩) (by assumption) ?_
              case hy0 => (intro w' hSw; (try dsimp only at hSw); go_simp; try with_reducible rfl)
              simp only [Act.put, List.setIfInBounds_toArray, List.set_cons_zero, List.set_cons_succ]
              refine wpAnyH_take (i := 1) (oi := ⟨some 79, _, _, _, _, _⟩) (v := ?_) rfl (by kernel_rfl) (by kernel_rfl) (by kernel_rfl) (fun _ _ _ h => h) (Or.inl ⟨by kernel_rfl, ?hy1⟩) (by assumption) ?_
              case hy1 => (intro w' hSw; (try dsimp only at hSw); go_simp; try with_reducible rfl)
              simp only [Act.put, List.setIfInBounds_toArray, List.set_cons_zero, List.set_cons_succ]
              refine wpAnyH_take (i := 2) (oi := ⟨some 80, _, _, _, _, _⟩) (v := ?_) rfl (by kernel_rfl) (by kernel_rfl) (by kernel_rfl) (fun _ _ _ h => h) (Or.inl ⟨by kernel_rfl, ?hy2⟩) (by assumption) ?_
              case hy2 => (intro w' hSw; (try dsimp only at hSw); go_simp; try with_reducible rfl)
              simp only [Act.put, List.setIfInBounds_toArray, List.set_cons_zero, List.set_cons_succ]
              refine wpAnyH_take (i := 3) (oi := ⟨some 81, _, _, _, _, _⟩) (v := ?_) rfl (by kernel_rfl) (by kernel_rfl) (by kernel_rfl) (fun _ _ _ h => h) (Or.inl ⟨by kernel_rfl, ?hy3⟩) (by assumption) ?_
              case hy3 => (intro w' hSw; (try dsimp only at hSw); go_simp; try with_reducible rfl)
              simp only [Act.put, List.setIfInBounds_toArray, List.set_cons_zero, List.set_cons_succ]
              refine wpAnyH_ready (rs := [4]) (by kernel_rfl) (by simp) ?_
              refine AllReadyH.cons (o := ⟨none, _, _, _, _, _⟩) rfl (fun K hK => ?_) AllReadyH.nil
              (rw [if_pos (by kernel_rfl)])
              go_simp
              refine hK.out _ _ (HKEEP.out) (fun hHeld => ?_)
              clear hK K
              refine wpAnyH_take (i := 5) (oi := ⟨some 5, _, _, _, _, _⟩) (v := ?_) rfl (by kernel_rfl) (by kernel_rfl) (by kernel_rfl) (fun _ _ _ h => h) (Or.inl ⟨by kernel_rfl, ?hy5⟩) (by assumption) ?_
              case hy5 => (intro w' hSw; (try dsimp only at hSw); go_simp; try with_reducible rfl)
              simp only [Act.put, List.setIfInBounds_toArray, List.set_cons_zero, List.set_cons_succ]
              refine wpAnyH_done (by kernel_rfl) ?_ _
              go_wp2_with fail
              refine bodyPost_ret (results_bx2 rfl _ _ (w.heap.size + 1) (.string (bs is)) (.int .i64 (ia : Int)) 24 rfl (((HRa.out.set 0 _).set 1 _).below drewB0) Tryz.underlying24 (sizeRBuf _)) rfl ?_
              exact ⟨by rw [HD.out]; rfl, ((HBa.out.setCell (p := ⟨w.heap.size + 1, 0, none⟩) (Nat.le_succ _) _).setCell (p := ⟨w.heap.size + 1, 1, none⟩) (Nat.le_succ _) _).drew⟩
            · have HR := Lib.hid (HF.out hf)
              have HJ := Lib.hid (HJ.out W8 hf)
              clear hf HI HF HNow
              refine HJ.out.mono ?_
              rintro e w9 ⟨rfl, hb9⟩
              have hx9 := HX8.out.below hb9
              have HX9 := Lib.hid hx9
              have HR9 := Lib.hid (HR8.out.below hb9)
              have HB9 := Lib.hid (HB8.out.trans (hb9.mono HB8.out.size))
              have HXa := Lib.hid (HX9.out.alloc (.cells #[.string (bs cs), .int .i64 (ca : Int)] 24))
              have HRa := Lib.hid (HR9.out.alloc (.cells #[.string (bs cs), .int .i64 (ca : Int)] 24))
              have HBa := Lib.hid (HB9.out.alloc HB9.out.size (.cells #[.string (bs cs), .int .i64 (ca : Int)] 24))
              have hqa := BxA.new w9 24 [.string (bs cs), .int .i64 (ca : Int)]
              obtain ⟨Wa, hWa⟩ : ∃ Wa, w9.alloc (.cells #[.string (bs cs), .int .i64 (ca : Int)] 24) = Wa := ⟨_, rfl⟩
              rw [hWa] at hqa HXa HRa HBa
              have c0 := HXa.out.c 0 rfl
              have c1 := HXa.out.c 1 rfl
              have r0 := HRa.out.c 0 rfl
              have r1 := HRa.out.c 1 rfl
              have rf0 := HRa.out.free 0
              have rf1 := HRa.out.free 1
              have q0 := hqa.c 0 rfl
              have q1 := hqa.c 1 rfl
              have HR9lt := Lib.hid HR9.out.lt
              have HQa := Lib.hid hqa
              clear hb9 hx9 HX9 HR9 HB9 hqa d0 d1 HX8 HR8 HB8 hW8
              clear HJ
              go_wp2_with fail
              refine bodyPost_ret (results_bx2 rfl _ _ (w.heap.size + 1) (.string (bs m)) (.int .i64 (a : Int)) 24 rfl ((HRa.out.set 0 _).set 1 _) Tryz.underlying24 (sizeRBuf _)) rfl ?_
              exact ⟨by rw [HR.out]; rfl, (HBa.out.setCell (p := ⟨w.heap.size + 1, 0, none⟩) (Nat.le_succ _) _).setCell (p := ⟨w.heap.size + 1, 1, none⟩) (Nat.le_succ _) _⟩
end
end Go.Proofs.YtlmbafnoopfilaaGreatDoor
