/-
  Layer 7 and what it stands on, part 31 (JnRight).
-/
import Derived.Test.YteafcaambnfdoaaGreatDoorPq14
import Derived.Test.YteafcaambnfdoaaGreatDoorPq30
namespace Go.Proofs.YteafcaambnfdoaaGreatDoor
section
open Go Go.RowKit
open Go.Lib (hid)
set_option maxRecDepth 100000
set_option maxHeartbeats 2000000 in
theorem jplain12_calls (l : List UInt8) (m : Nat) (hm : m ≤ 1000) (w : World) :
  Calls Tryz.prog 68 #[.string (bs l), .int .i64 (m : Int)] w fun e w' => e = .returned (.bool (decide (l.length ≤ m ∧ plainL l = l))) ∧ Below w.heap.size w w' := by
 have hs := bs_size l
 by_cases h1 : l.length ≤ m
 ·have q1 : decide ((l.length : Int) ≤ (m : Int)) = true := decide_eq_true (by omega)
  have q0 : decide (l.length ≤ m) = true := decide_eq_true h1
  have HP := hid (plain_calls l (by omega) w)
  have HR : Hid (decide (l.length ≤ m ∧ plainL l = l) = decide (plainL l = l)) := hid (by
   by_cases h : plainL l = l
   ·rw [decide_eq_true h, decide_eq_true ⟨h1, h⟩]
   ·rw [decide_eq_false h, decide_eq_false (fun k => h k.2)])
  have HQ : Hid (plainL l = l ∨ plainL l ≠ l) := hid (Decidable.em _)
  clear h1
  generalize plainL l = p at *
  rcases HQ.out with h | h
  ·have HD := hid (decide_eq_true h)
   have q2 : (l == p) = true := by rw [h]; exact beq_self_eq_true _
   have q3 : (p == l) = true := by rw [h]; exact beq_self_eq_true _
   clear HQ h
   go_enter Tryz.func68, Tryz.ntmps68
   go_wp2_with fail
   refine HP.out.mono ?_
   rintro e w1 ⟨rfl, hb1⟩
   have HB1 := hid hb1
   clear hb1 HP
   go_wp2_with fail
   go_ret
   exact ⟨by rw [HR.out, HD.out]; rfl, HB1.out⟩
  ·have HD := hid (decide_eq_false h)
   have q2 : (l == p) = false := beq_eq_false_iff_ne.2 (fun e => h e.symm)
   have q3 : (p == l) = false := beq_eq_false_iff_ne.2 h
   clear HQ h
   go_enter Tryz.func68, Tryz.ntmps68
   go_wp2_with fail
   refine HP.out.mono ?_
   rintro e w1 ⟨rfl, hb1⟩
   have HB1 := hid hb1
   clear hb1 HP
   go_wp2_with fail
   go_ret
   exact ⟨by rw [HR.out, HD.out]; rfl, HB1.out⟩
 ·have q1 : decide ((l.length : Int) ≤ (m : Int)) = false := decide_eq_false (by omega)
  have q0 : decide (l.length ≤ m) = false := decide_eq_false h1
  have HR : Hid (decide (l.length ≤ m ∧ plainL l = l) = false) := hid (decide_eq_false (fun k => h1 k.1))
  clear h1
  go_enter Tryz.func68, Tryz.ntmps68
  go_wp2_with fail
  go_ret
  exact ⟨by rw [HR.out]; rfl, Below.refl _ _⟩
set_option maxHeartbeats 4000000 in
theorem jright12_calls (e : EnJ) (w : World) :
  Calls Tryz.prog 30 #[.agg (enC e).toArray] w fun x w' => x = .returned (.bool (decide (rightJ e))) ∧ Below w.heap.size w w' := by
 obtain ⟨t, d, c⟩ := e
 have hs1 := bs_size d
 have hs2 := bs_size c
 have hb := (Below.refl _ w).alloc (Nat.le_refl _) (.cells (enC ⟨t, d, c⟩).toArray 56)
 have hx := BxA.new w 56 (enC ⟨t, d, c⟩)
 have HPd := hid (fun W => jplain12_calls d 60 (by omega) W)
 have HPc := hid (fun W => jplain12_calls c 600 (by omega) W)
 obtain ⟨b1, hb1⟩ : ∃ b, b = decide (d.length ≤ 60 ∧ plainL d = d) := ⟨_, rfl⟩
 obtain ⟨b2, hb2⟩ : ∃ b, b = decide (c.length ≤ 600 ∧ plainL c = c) := ⟨_, rfl⟩
 rw [← hb1] at HPd
 rw [← hb2] at HPc
 have HRt : Hid (rightJ ⟨t, d, c⟩ ↔ 0 ≤ t ∧ t ≤ 1099511627775 ∧ b1 = true ∧ c ≠ [] ∧ b2 = true) := hid (by
  rw [hb1, hb2, decide_eq_true_iff, decide_eq_true_iff]
  unfold rightJ
  simp only
  constructor
  ·rintro ⟨r1, r2, r3, r4, r5, r6, r7⟩
   exact ⟨r1, r2, ⟨r3, r6⟩, fun e => by rw [e] at r4; simp at r4, ⟨r5, r7⟩⟩
  ·rintro ⟨r1, r2, ⟨r3, r6⟩, r4, ⟨r5, r7⟩⟩
   exact ⟨r1, r2, r3, List.length_pos_iff.2 r4, r5, r6, r7⟩)
 clear hb1 hb2
 go_enter Tryz.func30, Tryz.ntmps30
 obtain ⟨W, hW⟩ : ∃ W, w.alloc (.cells (enC ⟨t, d, c⟩).toArray 56) = W := ⟨_, rfl⟩
 rw [hW] at hb hx
 have HB := hid hb
 have HX := hid hx
 have x0 := hx.c 0 rfl
 have x1 := hx.c 1 rfl
 have x2 := hx.c 2 rfl
 clear hb hx
 simp only at x0 x1 x2
 by_cases h1 : 0 ≤ t
 ·have q1 : decide ((0 : Int) ≤ t) = true := decide_eq_true h1
  by_cases h2 : t ≤ 1099511627775
  ·have q2 : decide (t ≤ (1099511627775 : Int)) = true := decide_eq_true h2
   go_wp2_with fail
   refine (HPd.out _).mono ?_
   rintro x w1 ⟨rfl, hb1⟩
   have HB1 := hid hb1
   clear hb1 x0 x1 x2 hW
   have x0 := (HX.out.below HB1.out).c 0 rfl
   have x1 := (HX.out.below HB1.out).c 1 rfl
   have x2 := (HX.out.below HB1.out).c 2 rfl
   simp only at x0 x1 x2
   cases b1 with
   | false =>
    go_wp2_with fail
    go_ret
    exact ⟨by rw [decide_eq_false (fun h => by have := (HRt.out.1 h).2.2.1; cases this)]; rfl, HB.out.trans (HB1.out.mono HB.out.size)⟩
   | true =>
    by_cases h3 : c = []
    ·have q4 : (c == []) = true := by rw [h3]; rfl
     have HF : Hid (decide (rightJ ⟨t, d, c⟩) = false) := hid (decide_eq_false (fun h => (HRt.out.1 h).2.2.2.1 h3))
     clear h3
     go_wp2_with fail
     go_ret
     exact ⟨by rw [HF.out]; rfl, HB.out.trans (HB1.out.mono HB.out.size)⟩
    ·have q4 : (c == []) = false := beq_eq_false_iff_ne.2 h3
     have H3 := hid h3
     clear h3
     go_wp2_with fail
     refine (HPc.out _).mono ?_
     rintro x w2 ⟨rfl, hb2⟩
     have HB2 := hid hb2
     clear hb2 x0 x1 x2
     cases b2 with
     | false =>
      have HF : Hid (decide (rightJ ⟨t, d, c⟩) = false) := hid (decide_eq_false (fun h => by have := (HRt.out.1 h).2.2.2.2; cases this))
      go_wp2_with fail
      go_ret
      exact ⟨by rw [HF.out]; rfl, HB.out.trans ((HB1.out.trans (HB2.out.mono HB1.out.size)).mono HB.out.size)⟩
     | true =>
      have HF : Hid (decide (rightJ ⟨t, d, c⟩) = true) := hid (decide_eq_true (HRt.out.2 ⟨h1, h2, by simp, H3.out, by simp⟩))
      go_wp2_with fail
      go_ret
      exact ⟨by rw [HF.out]; rfl, HB.out.trans ((HB1.out.trans (HB2.out.mono HB1.out.size)).mono HB.out.size)⟩
  ·have q2 : decide (t ≤ (1099511627775 : Int)) = false := decide_eq_false h2
   have HF : Hid (decide (rightJ ⟨t, d, c⟩) = false) := hid (decide_eq_false (fun h => h2 h.2.1))
   clear h2
   go_wp2_with fail
   go_ret
   exact ⟨by rw [HF.out]; rfl, HB.out⟩
 ·have q1 : decide ((0 : Int) ≤ t) = false := decide_eq_false h1
  have HF : Hid (decide (rightJ ⟨t, d, c⟩) = false) := hid (decide_eq_false (fun h => h1 h.1))
  clear h1
  go_wp2_with fail
  go_ret
  exact ⟨by rw [HF.out]; rfl, HB.out⟩
end
end Go.Proofs.YteafcaambnfdoaaGreatDoor
