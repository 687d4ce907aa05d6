/-
  The walk of FrameNext (layer 11).
-/
import Derived.Test.YtjfikdldabmciaaDoorFrameC
namespace Go.Proofs.YtjfikdldabmciaaDoor
open Go Go.RowKit
set_option maxRecDepth 100000

set_option maxHeartbeats 4000000 in
theorem frnext_law (A : Option Addr) (c : Nat) (b : List UInt8) (w : World) (hb : Byt w A b) (hA : A = none → c = 0) (hc : b.length ≤ c) (ht : LaysR w) :
    Calls Tryd.prog 4 #[.slice A b.length c] w fun e w' => e = .returned (.bool true) ∧ Below w.heap.size w w' := by
  obtain ⟨i0, hi0, hz0, hz1, hz2⟩ := info8_11
  have HB := Lib.hid hb
  have HT := Lib.hid ht
  have HA := Lib.hid hA
  have HC := Lib.hid hc
  clear hb ht hA hc
  by_cases h30 : 3000 < b.length
  · have d0 : decide (3000 < (b.length : Int)) = true := decide_eq_true (by omega)
    clear h30
    go_enter Tryd.func4, Tryd.ntmps4
    go_wp2_with fail
    refine (falive11_calls w HT.out).mono ?_
    rintro e w1 ⟨rfl, hb1⟩
    go_wp2_with fail
    go_ret
    exact ⟨rfl, hb1⟩
  · have d0 : decide (3000 < (b.length : Int)) = false := decide_eq_false (by omega)
    have HL := Lib.hid h30
    clear h30
    go_enter Tryd.func4, Tryd.ntmps4
    go_wp2_with (at_builtin; refine wpList_append_byt _ rfl _ _ 22 rfl w.heap.size i0 Tryd.underlying22 hi0 hz0 hz1 hz2 (.slice (some ⟨w.heap.size, 0, none⟩) 0 0) [] rfl ?own A c b rfl HA.out ?byt (by have := HL.out; simp; omega) ?base ?_)
    case own => exact own_empty w w.heap.size (Nat.le_refl _)
    case byt => exact HB.out.alloc _
    case base => simp
    intro v1 w1 hown1 hgr1 _
    have hb1 : Below w.heap.size w w1 := ((Below.refl _ w).alloc (Nat.le_refl _) _).grown hgr1 (by simp) (fun k hk => Nat.le_of_eq (Option.some.inj hk))
    obtain ⟨A1, c1, rfl⟩ := own_form hown1
    have HO1 := Lib.hid (byt_of_own (l := b) hown1).1
    have HB1 := Lib.hid hb1
    clear hown1 hgr1 hb1
    go_wp2_with fail
    refine (fnext11_calls A c b w1 (HB.out.below HB1.out) HA.out HC.out (by have := HL.out; omega) (HT.out.on HB1.out)).mono ?_
    rintro e w2 ⟨A2, c2, rfl, hown2, hb2⟩
    have HB2 := Lib.hid (HB1.out.trans (hb2.mono HB1.out.size))
    have HO2 := Lib.hid (HO1.out.below hb2)
    have HP2 := Lib.hid (byt_of_own hown2).1
    clear hown2 hb2 HO1
    have HR := Lib.hid (rnext11_calls A c b w2 (HB.out.below HB2.out) HC.out (by have := HL.out; omega))
    generalize nextF b = nx at *
    obtain ⟨pl, nn⟩ := nx
    simp only at HR HP2 ⊢
    generalize errF b = er at *
    go_wp2_with fail
    refine HR.out.mono ?_
    rintro e w3 ⟨A3, c3, rfl, hby, _, hb3⟩
    have HB3 := Lib.hid (HB2.out.trans (hb3.mono HB2.out.size))
    have HO3 := Lib.hid (HO2.out.below hb3)
    have HP3 := Lib.hid (HP2.out.below hb3)
    have HQ3 := Lib.hid (hby w3 (HB.out.below HB3.out))
    clear hby hb3 HO2 HP2 HR
    go_wp2_with fail
    refine (falive11_calls w3 (HT.out.on HB3.out)).mono ?_
    rintro e w4 ⟨rfl, hb4⟩
    have HB4 := Lib.hid (HB3.out.trans (hb4.mono HB3.out.size))
    have HO4 := Lib.hid (HO3.out.below hb4)
    have HE := Lib.hid (beq_calls A2 A3 c2 c3 pl pl w4 (HP3.out.below hb4) (HQ3.out.below hb4))
    rw [decide_eq_true rfl] at HE
    clear hb4 HO3 HP3 HQ3
    go_wp2_with fail
    refine HE.out.mono ?_
    rintro e w5 ⟨rfl, hb5⟩
    have HB5 := Lib.hid (HB4.out.trans (hb5.mono HB4.out.size))
    have HE5 := Lib.hid (beq_calls A A1 c c1 b b w5 (HB.out.below HB5.out) (HO4.out.below hb5))
    rw [decide_eq_true rfl] at HE5
    clear hb5 HO4 HE
    go_wp2_with fail
    refine HE5.out.mono ?_
    rintro e w6 ⟨rfl, hb6⟩
    have HB6 := Lib.hid (HB5.out.trans (hb6.mono HB5.out.size))
    clear hb6 HE5
    go_wp2_with fail
    go_ret
    exact ⟨rfl, HB6.out⟩
end Go.Proofs.YtjfikdldabmciaaDoor
