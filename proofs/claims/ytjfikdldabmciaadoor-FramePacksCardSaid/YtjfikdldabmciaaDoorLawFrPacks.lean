/-
  The walk of FramePacks (layer 11).
-/
import Derived.Test.YtjfikdldabmciaaDoorFrameC
namespace Go.Proofs.YtjfikdldabmciaaDoor
open Go Go.RowKit
set_option maxRecDepth 100000

theorem pack_next (p : List UInt8) (h : p.length ≤ 1000) : nextF (packF p) = (p, 6 + p.length) ∧ errF (packF p) = 0 := by
  have h1 := next_pack p [] h
  have h2 := ok_pack p [] h
  rw [List.append_nil] at h1 h2
  exact ⟨h1, err_ok.2 h2⟩
set_option maxHeartbeats 4000000 in
theorem frpacks_law (A : Option Addr) (c : Nat) (p : List UInt8) (w : World) (hb : Byt w A p) (hA : A = none → c = 0) (ht : LaysR w) :
    Calls Tryd.prog 3 #[.slice A p.length c] w fun e w' => e = .returned (.bool true) ∧ Below w.heap.size w w' := by
  have HB := Lib.hid hb
  have HT := Lib.hid ht
  have HA := Lib.hid hA
  clear hb ht hA
  have HAl : Hid (∀ W, Below w.heap.size w W → Calls Tryd.prog 9 #[] W fun e w' => e = .returned (.bool true) ∧ Below w.heap.size w w') := Lib.hid fun W hb => (falive11_calls W (HT.out.on hb)).mono (by rintro e w' ⟨h1, h2⟩; exact ⟨h1, hb.trans (h2.mono hb.size)⟩)
  by_cases h15 : 1500 < p.length
  · have d0 : decide (1500 < (p.length : Int)) = true := decide_eq_true (by omega)
    clear h15
    go_enter Tryd.func3, Tryd.ntmps3
    go_wp2_with fail
    refine (HAl.out w (Below.refl _ _)).mono ?_
    rintro e w1 ⟨rfl, hb1⟩
    go_wp2_with fail
    go_ret
    exact ⟨rfl, hb1⟩
  · have d0 : decide (1500 < (p.length : Int)) = false := decide_eq_false (by omega)
    by_cases h10 : 1000 < p.length
    · have HP := Lib.hid (fpack11_long A c p w h10)
      clear h15
      go_enter Tryd.func3, Tryd.ntmps3
      go_wp2_with fail
      refine HP.out.mono ?_
      rintro e w1 ⟨rfl, hb1⟩
      have HB1 := Lib.hid hb1
      clear hb1
      go_wp2_with fail
      refine (rpack11_long A c p w1 h10).mono ?_
      rintro e w2 ⟨rfl, hb2⟩
      have HB2 := Lib.hid (HB1.out.trans (hb2.mono HB1.out.size))
      clear hb2 h10
      have HE := Lib.hid (beq_calls none none 0 0 [] [] w2 (Byt.nil_ _ _) (Byt.nil_ _ _))
      rw [decide_eq_true rfl] at HE
      go_wp2_with fail
      refine HE.out.mono ?_
      rintro e w3 ⟨rfl, hb3⟩
      have HB3 := Lib.hid (HB2.out.trans (hb3.mono HB2.out.size))
      clear hb3
      go_wp2_with fail
      refine (HAl.out w3 HB3.out).mono ?_
      rintro e w4 ⟨rfl, hb4⟩
      go_wp2_with fail
      go_ret
      exact ⟨rfl, hb4⟩
    · have HP := Lib.hid (fpack11_calls A c p w HB.out HA.out (by omega) HT.out)
      have hl1 : p.length ≤ 1000 := by omega
      have HL1 := Lib.hid hl1
      clear h15 h10 hl1
      go_enter Tryd.func3, Tryd.ntmps3
      go_wp2_with fail
      refine HP.out.mono ?_
      rintro e w1 ⟨A1, c1, rfl, hown1, hb1⟩
      have HB1 := Lib.hid hb1
      have HO1 := Lib.hid hown1
      clear hb1 hown1 HP
      go_wp2_with fail
      refine (rpack11_calls A c p w1 (HB.out.below HB1.out) HA.out HL1.out).mono ?_
      rintro e w2 ⟨A2, c2, rfl, hown2, hb2⟩
      have HB2 := Lib.hid (HB1.out.trans (hb2.mono HB1.out.size))
      have HO2 := Lib.hid (own_below HO1.out hb2)
      have HE := Lib.hid (beq_calls A1 A2 c1 c2 (packF p) (packF p) w2 (byt_of_own HO2.out).1 (byt_of_own hown2).1)
      rw [decide_eq_true rfl] at HE
      clear hown2 hb2 HO1
      go_wp2_with fail
      refine HE.out.mono ?_
      rintro e w3 ⟨rfl, hb3⟩
      have HB3 := Lib.hid (HB2.out.trans (hb3.mono HB2.out.size))
      have HO3 := Lib.hid (own_below HO2.out hb3)
      clear hb3 HE HO2
      have hpl := packF_length p
      have HNx := Lib.hid (fnext11_calls A1 c1 (packF p) w3 (byt_of_own HO3.out).1 (own_none HO3.out) (byt_of_own HO3.out).2.2.1 (by rw [hpl]; have := HL1.out; omega) (HT.out.on HB3.out))
      obtain ⟨e1, e2⟩ := pack_next p HL1.out
      rw [e1, e2] at HNx
      clear e1 e2
      have HPl := Lib.hid hpl
      clear hpl
      go_wp2_with fail
      refine HNx.out.mono ?_
      rintro e w4 ⟨A4, c4, rfl, hown4, hb4⟩
      have HB4 := Lib.hid (HB3.out.trans (hb4.mono HB3.out.size))
      have HO4 := Lib.hid hown4
      clear hb4 hown4 HNx HO3
      go_wp2_with fail
      refine (falive11_calls w4 (HT.out.on HB4.out)).mono ?_
      rintro e w5 ⟨rfl, hb5⟩
      have HB5 := Lib.hid (HB4.out.trans (hb5.mono HB4.out.size))
      have HE5 := Lib.hid (beq_calls A A4 c c4 p p w5 (HB.out.below HB5.out) ((byt_of_own HO4.out).1.below hb5))
      rw [decide_eq_true rfl] at HE5
      clear hb5 HO4
      go_wp2_with fail
      refine HE5.out.mono ?_
      rintro e w6 ⟨rfl, hb6⟩
      have HB6 := Lib.hid (HB5.out.trans (hb6.mono HB5.out.size))
      have hpl : ((packF p).length : Int) = 6 + (p.length : Int) := by rw [HPl.out]; omega
      clear hb6 HE5
      go_wp2_with fail
      go_ret
      exact ⟨rfl, HB6.out⟩
end Go.Proofs.YtjfikdldabmciaaDoor
