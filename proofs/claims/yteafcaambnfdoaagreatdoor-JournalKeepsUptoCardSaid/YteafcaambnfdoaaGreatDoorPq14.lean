/-
  Layer 7 and what it stands on, part 14 (RJRight RJSame).
-/
import Derived.Test.YteafcaambnfdoaaGreatDoorPq1
import Derived.Test.YteafcaambnfdoaaGreatDoorPq11
import Derived.Test.YteafcaambnfdoaaGreatDoorPq13
import Derived.Deep.RegionHeld3
import Derived.Deep.Cut
import Derived.BigQuiet
import Derived.Laws.StructEq
namespace Go.Proofs.YteafcaambnfdoaaGreatDoor
section
open Go Go.RowKit
open Go.Lib (hid)
set_option maxRecDepth 100000
abbrev enC (e : EnJ) : List Value := [.int .i64 e.t, .string (bs e.d), .string (bs e.c)]
set_option maxHeartbeats 4000000 in
theorem rright12_calls (e : EnJ) (w : World) :
  Calls Tryz.prog 27 #[.agg (enC e).toArray] w fun x w' => x = .returned (.bool (decide (rightJ e))) ∧ Below w.heap.size w w' := by
 obtain ⟨t, d, c⟩ := e
 have HPd := hid (fun (h : d.length ≤ 60) W => rplain_calls d (by omega) W)
 have HPc := hid (fun (h : c.length ≤ 600) W => rplain_calls c (by omega) W)
 have hs1 := bs_size d
 have hs2 := bs_size c
 have hb := (Below.refl _ w).alloc (Nat.le_refl _) (.cells (enC ⟨t, d, c⟩).toArray 28)
 have hx := BxA.new w 28 (enC ⟨t, d, c⟩)
 have hlw : w.heap.size < (w.alloc (.cells (enC ⟨t, d, c⟩).toArray 28)).heap.size := by simp
 go_enter Tryz.func27, Tryz.ntmps27
 obtain ⟨W, hW⟩ : ∃ W, w.alloc (.cells (enC ⟨t, d, c⟩).toArray 28) = W := ⟨_, rfl⟩
 rw [hW] at hb hx hlw
 have HB := hid hb
 have HBt := hid hb
 have x0 := hx.c 0 rfl
 have x1 := hx.c 1 rfl
 have x2 := hx.c 2 rfl
 have CX : Hid (∀ y, Below W.heap.size W y → y.cell? ⟨w.heap.size, 0, none⟩ = some (.int .i64 t) ∧ y.cell? ⟨w.heap.size, 1, none⟩ = some (.string (bs d)) ∧ y.cell? ⟨w.heap.size, 2, none⟩ = some (.string (bs c))) := hid (fun y hy => ⟨(hx.below hy).c 0 rfl, (hx.below hy).c 1 rfl, (hx.below hy).c 2 rfl⟩)
 have KK0 := hid (Below.refl W.heap.size W).drew
 have k0 := CX.out _ KK0.out
 clear hb hx hlw
 simp only at x0 x1 x2
 by_cases h1 : t < 0
 ·have q1 : decide (t < 0) = true := decide_eq_true (by omega)
  have HR : Hid (decide (rightJ ⟨t, d, c⟩) = false) := hid (decide_eq_false (fun h => by obtain ⟨r1, r2, r3, r4, r5, _⟩ := h; simp only at r1 r2 r3 r4 r5; omega))
  clear HPd HPc KK0 CX
  go_wp2_with fail
  go_ret
  exact ⟨by rw [HR.out]; rfl, HB.out⟩
 have q1 : decide (t < 0) = false := decide_eq_false (by omega)
 by_cases h2 : 1099511627775 < t
 ·have q2 : decide ((1099511627775 : Int) < t) = true := decide_eq_true (by omega)
  have HR : Hid (decide (rightJ ⟨t, d, c⟩) = false) := hid (decide_eq_false (fun h => by obtain ⟨r1, r2, r3, r4, r5, _⟩ := h; simp only at r1 r2 r3 r4 r5; omega))
  clear HPd HPc KK0 CX
  go_wp2_with fail
  go_ret
  exact ⟨by rw [HR.out]; rfl, HB.out⟩
 have q2 : decide ((1099511627775 : Int) < t) = false := decide_eq_false (by omega)
 by_cases h3 : 60 < d.length
 ·have q3 : decide ((60 : Int) < (d.length : Int)) = true := decide_eq_true (by omega)
  have HR : Hid (decide (rightJ ⟨t, d, c⟩) = false) := hid (decide_eq_false (fun h => by obtain ⟨r1, r2, r3, r4, r5, _⟩ := h; simp only at r1 r2 r3 r4 r5; omega))
  clear HPd HPc KK0 CX
  go_wp2_with fail
  go_ret
  exact ⟨by rw [HR.out]; rfl, HB.out⟩
 have q3 : decide ((60 : Int) < (d.length : Int)) = false := decide_eq_false (by omega)
 by_cases h4 : c.length < 1
 ·have q4 : decide ((c.length : Int) < 1) = true := decide_eq_true (by omega)
  have HR : Hid (decide (rightJ ⟨t, d, c⟩) = false) := hid (decide_eq_false (fun h => by obtain ⟨r1, r2, r3, r4, r5, _⟩ := h; simp only at r1 r2 r3 r4 r5; omega))
  clear HPd HPc KK0 CX
  go_wp2_with fail
  go_ret
  exact ⟨by rw [HR.out]; rfl, HB.out⟩
 have q4 : decide ((c.length : Int) < 1) = false := decide_eq_false (by omega)
 by_cases h5 : 600 < c.length
 ·have q5 : decide ((600 : Int) < (c.length : Int)) = true := decide_eq_true (by omega)
  have HR : Hid (decide (rightJ ⟨t, d, c⟩) = false) := hid (decide_eq_false (fun h => by obtain ⟨r1, r2, r3, r4, r5, _⟩ := h; simp only at r1 r2 r3 r4 r5; omega))
  clear HPd HPc KK0 CX
  go_wp2_with fail
  go_ret
  exact ⟨by rw [HR.out]; rfl, HB.out⟩
 have q5 : decide ((600 : Int) < (c.length : Int)) = false := decide_eq_false (by omega)
 by_cases hd : plainL d = d
 ·have q6 : (plainL d == d) = true := by rw [hd]; exact beq_self_eq_true _
  by_cases hc : plainL c = c
  ·have q7 : (plainL c == c) = true := by rw [hc]; exact beq_self_eq_true _
   have HR : Hid (decide (rightJ ⟨t, d, c⟩) = true) := hid (decide_eq_true ⟨by simp only; omega, by simp only; omega, by simp only; omega, by simp only; omega, by simp only; omega, hd, hc⟩)
   clear hd hc
   generalize plainL d = pd at *
   generalize plainL c = pc at *
   go_upto_region 3 with fail
   refine wp_region_held_drew (S := (fun w' => Below W.heap.size W w' ∧ w'.cell? ⟨w.heap.size, 0, none⟩ = some (.int .i64 t) ∧ w'.cell? ⟨w.heap.size, 1, none⟩ = some (.string (bs d)) ∧ w'.cell? ⟨w.heap.size, 2, none⟩ = some (.string (bs c)))) (by kernel_rfl) ⟨KK0.out, k0⟩ (fun hHeld => ?_)
   refine tkH 0 ?_
   refine tkH 1 ?_
   refine tkH 3 ?_
   refine tkH 4 ?_
   refine rdH 2 fun K hK => ?_
   go_simp
   refine (HPd.out (by omega) _).mono ?_; rintro e y1 ⟨rfl, hb⟩; have KK1 : Hid (Below W.heap.size W y1) := hid (KK0.out.trans (hb.mono KK0.out.size)); have k1 := CX.out _ KK1.out; clear hb
   refine hK.out _ _ ⟨KK1.out, k1⟩ (fun hHeld => ?_)
   clear hK K
   refine tkH 5 ?_
   refine tkH 6 ?_
   refine tkH 7 ?_
   refine tkH 8 ?_
   refine tkH 10 ?_
   refine tkH 11 ?_
   refine rdH 9 fun K hK => ?_
   go_simp
   refine (HPc.out (by omega) _).mono ?_; rintro e y2 ⟨rfl, hb⟩; have KK2 : Hid (Below W.heap.size W y2) := hid (KK1.out.trans (hb.mono KK1.out.size)); have k2 := CX.out _ KK2.out; clear hb
   refine hK.out _ _ ⟨KK2.out, k2⟩ (fun hHeld => ?_)
   clear hK K
   refine tkH 12 ?_
   refine tkH 13 ?_
   refine tkH 14 ?_
   refine wpAnyH_done (by kernel_rfl) ?_ _
   go_wp2_with fail
   go_ret
   exact ⟨by rw [HR.out]; rfl, HBt.out.trans (KK2.out.mono HBt.out.size)⟩
  ·have q7 : (plainL c == c) = false := beq_eq_false_iff_ne.2 hc
   have HR : Hid (decide (rightJ ⟨t, d, c⟩) = false) := hid (decide_eq_false (fun h => hc h.2.2.2.2.2.2))
   clear hd hc
   generalize plainL d = pd at *
   generalize plainL c = pc at *
   go_upto_region 3 with fail
   refine wp_region_held_drew (S := (fun w' => Below W.heap.size W w' ∧ w'.cell? ⟨w.heap.size, 0, none⟩ = some (.int .i64 t) ∧ w'.cell? ⟨w.heap.size, 1, none⟩ = some (.string (bs d)) ∧ w'.cell? ⟨w.heap.size, 2, none⟩ = some (.string (bs c)))) (by kernel_rfl) ⟨KK0.out, k0⟩ (fun hHeld => ?_)
   refine tkH 0 ?_
   refine tkH 1 ?_
   refine tkH 3 ?_
   refine tkH 4 ?_
   refine rdH 2 fun K hK => ?_
   go_simp
   refine (HPd.out (by omega) _).mono ?_; rintro e y1 ⟨rfl, hb⟩; have KK1 : Hid (Below W.heap.size W y1) := hid (KK0.out.trans (hb.mono KK0.out.size)); have k1 := CX.out _ KK1.out; clear hb
   refine hK.out _ _ ⟨KK1.out, k1⟩ (fun hHeld => ?_)
   clear hK K
   refine tkH 5 ?_
   refine tkH 6 ?_
   refine tkH 7 ?_
   refine tkH 8 ?_
   refine tkH 10 ?_
   refine tkH 11 ?_
   refine rdH 9 fun K hK => ?_
   go_simp
   refine (HPc.out (by omega) _).mono ?_; rintro e y2 ⟨rfl, hb⟩; have KK2 : Hid (Below W.heap.size W y2) := hid (KK1.out.trans (hb.mono KK1.out.size)); have k2 := CX.out _ KK2.out; clear hb
   refine hK.out _ _ ⟨KK2.out, k2⟩ (fun hHeld => ?_)
   clear hK K
   refine tkH 12 ?_
   refine tkH 13 ?_
   refine tkH 14 ?_
   refine wpAnyH_done (by kernel_rfl) ?_ _
   go_wp2_with fail
   go_ret
   exact ⟨by rw [HR.out]; rfl, HBt.out.trans (KK2.out.mono HBt.out.size)⟩
 ·have q6 : (plainL d == d) = false := beq_eq_false_iff_ne.2 hd
  have HR : Hid (decide (rightJ ⟨t, d, c⟩) = false) := hid (decide_eq_false (fun h => hd h.2.2.2.2.2.1))
  clear hd
  generalize plainL d = pd at *
  go_upto_region 3 with fail
  refine wp_region_held_drew (S := (fun w' => Below W.heap.size W w' ∧ w'.cell? ⟨w.heap.size, 0, none⟩ = some (.int .i64 t) ∧ w'.cell? ⟨w.heap.size, 1, none⟩ = some (.string (bs d)) ∧ w'.cell? ⟨w.heap.size, 2, none⟩ = some (.string (bs c)))) (by kernel_rfl) ⟨KK0.out, k0⟩ (fun hHeld => ?_)
  refine tkH 0 ?_
  refine tkH 1 ?_
  refine tkH 3 ?_
  refine tkH 4 ?_
  refine rdH 2 fun K hK => ?_
  go_simp
  refine (HPd.out (by omega) _).mono ?_; rintro e y1 ⟨rfl, hb⟩; have KK1 : Hid (Below W.heap.size W y1) := hid (KK0.out.trans (hb.mono KK0.out.size)); have k1 := CX.out _ KK1.out; clear hb
  refine hK.out _ _ ⟨KK1.out, k1⟩ (fun hHeld => ?_)
  clear hK K
  refine tkH 5 ?_
  refine tkH 6 ?_
  refine skH 7 ?_
  refine skH 8 ?_
  refine skH 9 ?_
  refine skH 10 ?_
  refine skH 11 ?_
  refine skH 12 ?_
  refine tkH 13 ?_
  refine tkH 14 ?_
  refine wpAnyH_done (by kernel_rfl) ?_ _
  go_wp2_with fail
  go_ret
  exact ⟨by rw [HR.out]; rfl, HBt.out.trans (KK1.out.mono HBt.out.size)⟩
end
section
open Go Go.RowKit
open Go.Lib (hid)
set_option maxRecDepth 100000
theorem bs_inj {a b : List UInt8} (h : bs a = bs b) : a = b := by have := congrArg bl h; rwa [bl_bs, bl_bs] at this
theorem enC_length (e : EnJ) : (enC e).length = 3 := rfl
theorem en_at {w : World} {D : Nat → Prop} {A : Option Addr} {vs : List EnJ} (h : RowT enC w D A vs) {k : Nat} {v : EnJ} (hq : vs[k]? = some v) : ∃ g o, A = some ⟨g, o, none⟩ ∧ D g ∧ g < w.heap.size ∧ w.cell? ⟨g, o + k * 3, none⟩ = some (.int .i64 v.t) ∧
  w.cell? ⟨g, o + k * 3 + 1, none⟩ = some (.string (bs v.d)) ∧ w.cell? ⟨g, o + k * 3 + 2, none⟩ = some (.string (bs v.c)) := by
 have hk : k < vs.length := (List.getElem?_eq_some_iff.1 hq).1
 obtain ⟨g, o, e, hD, hg, hc⟩ := h (by omega)
 refine ⟨g, o, e, hD, hg, ?_, ?_, ?_⟩
 ·have := hc (k * 3 + 0) _ (flat_get enC_length hq (j := 0) rfl)
  simpa using this
 ·have := hc (k * 3 + 1) _ (flat_get enC_length hq (j := 1) rfl)
  rw [Nat.add_assoc]
  exact this
 ·have := hc (k * 3 + 2) _ (flat_get enC_length hq (j := 2) rfl)
  rw [Nat.add_assoc]
  exact this
set_option maxHeartbeats 4000000 in
theorem rsame12_calls (w : World) (D E : Nat → Prop) (A B : Option Addr) (ca cb : Nat) (a b : List EnJ) (ha : RowT enC w D A a) (hb : RowT enC w E B b) (hla : a.length ≤ 1000000) (_ : b.length ≤ 1000000) :
  Calls Tryz.prog 25 #[.slice A a.length ca, .slice B b.length cb] w fun x w' => x = .returned (.bool (decide (a = b))) ∧ Below w.heap.size w w' := by
 have HA := hid ha
 have HB := hid hb
 clear ha hb
 go_enter Tryz.func25, Tryz.ntmps25
 by_cases hlen : a.length = b.length
 ·have q1 : ((a.length : Int) != (b.length : Int)) = false := by rw [hlen]; simp
  have HLen := hid hlen
  clear hlen
  go_wp2_with fail
  go_loopw [5] (fun v5 wr => ∃ k : Nat, k ≤ a.length ∧ v5 = .int .i64 (k : Int) ∧ Hid (a.take k = b.take k) ∧ Hid (Below w.heap.size w wr)) (fun v5 _ => a.length - (intOf v5).toNat)
  case atStart => exact ⟨0, Nat.zero_le _, rfl, hid (by simp), hid (Below.refl _ _)⟩
  case round =>
   obtain ⟨k, hk, rfl, hT, hB'⟩ := hrel
   by_cases hlt : k < a.length
   ·have hkl : (k : Int) < (a.length : Int) := by omega
    have hltb : k < b.length := by have := HLen.out; omega
    have hklb : (k : Int) < (b.length : Int) := by omega
    have hqa : a[k]? = some a[k] := List.getElem?_eq_getElem hlt
    have hqb : b[k]? = some b[k] := List.getElem?_eq_getElem hltb
    obtain ⟨g, o, rfl, _, hg, c0, c1, c2⟩ := en_at (HA.out.below hB'.out) hqa
    obtain ⟨g', o', rfl, _, hg', d0, d1, d2⟩ := en_at (HB.out.below hB'.out) hqb
    have HQa := hid hqa
    have HQb := hid hqb
    clear hqa hqb
    generalize a[k] = x at *
    generalize b[k] = y at *
    obtain ⟨xt, xd, xc⟩ := x
    obtain ⟨yt, yd, yc⟩ := y
    simp only at c0 c1 c2 d0 d1 d2
    by_cases hxy : (⟨xt, xd, xc⟩ : EnJ) = ⟨yt, yd, yc⟩
    ·have HT : Hid (a.take (k + 1) = b.take (k + 1)) := hid (by rw [List.take_add_one, List.take_add_one, HQa.out, HQb.out, hT.out, hxy])
     injection hxy with e1 e2 e3
     subst e1 e2 e3
     go_wp2_with fail
     go_quiet (fail)
     go_wp2_with fail
     go_roundw
     case rel => exact ⟨k + 1, by omega, by go_num, HT, hid (bel_drewN hB'.out _)⟩
     case measure => simp [intOf]; omega
    ·have HR : Hid (decide (a = b) = false) := hid (decide_eq_false (fun e => hxy (by
      have h := HQa.out
      rw [e, HQb.out] at h
      injection h with h
      exact h.symm)))
     by_cases e1 : xt = yt
     ·subst e1
      by_cases e2 : xd = yd
      ·subst e2
       have e3 : xc ≠ yc := fun e => hxy (by rw [e])
       have t1 : ((bs xc).toList == (bs yc).toList) = false := by rw [tl_beq]; exact decide_eq_false (fun e => e3 (bs_inj e))
       go_wp2_with fail
       go_quiet (fail)
       go_wp2_with fail
       go_ret
       exact ⟨by rw [HR.out]; rfl, bel_drewN hB'.out _⟩
      ·clear hxy
       have t1 : ((bs xd).toList == (bs yd).toList) = false := by rw [tl_beq]; exact decide_eq_false (fun e => e2 (bs_inj e))
       go_wp2_with fail
       go_quiet (fail)
       go_wp2_with fail
       go_ret
       exact ⟨by rw [HR.out]; rfl, bel_drewN hB'.out _⟩
     ·clear hxy
      have t1 : (xt == yt) = false := beq_eq_false_iff_ne.2 e1
      go_wp2_with fail
      go_quiet (fail)
      go_wp2_with fail
      go_ret
      exact ⟨by rw [HR.out]; rfl, bel_drewN hB'.out _⟩
   ·obtain rfl : k = a.length := by omega
    have HR : Hid (decide (a = b) = true) := hid (decide_eq_true (by
     have h := hT.out
     rw [List.take_length, HLen.out, List.take_length] at h
     exact h))
    clear hT
    go_wp2_with fail
    go_ret
    exact ⟨by rw [HR.out]; rfl, hB'.out⟩
 ·have q1 : ((a.length : Int) != (b.length : Int)) = true := by simpa using (show (a.length : Int) ≠ (b.length : Int) by omega)
  have HR : Hid (decide (a = b) = false) := hid (decide_eq_false (fun e => hlen (by rw [e])))
  clear hlen
  go_wp2_with fail
  go_ret
  exact ⟨by rw [HR.out]; rfl, Below.refl _ _⟩
end
end Go.Proofs.YteafcaambnfdoaaGreatDoor
