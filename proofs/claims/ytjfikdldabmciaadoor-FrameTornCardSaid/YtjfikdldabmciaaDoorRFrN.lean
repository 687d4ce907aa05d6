/-
  The document's Next (layer 11).
-/
import Derived.Test.YtjfikdldabmciaaDoorRFr
import Derived.RegionTactic
import Derived.BigRegion
namespace Go.Proofs.YtjfikdldabmciaaDoor
open Go Go.RowKit
set_option maxRecDepth 100000

theorem run_load (A : Option Addr) (n c k : Nat) (h : 6 + k ≤ c) :
    ∀ W : World, (Instr.slice 22 (.slice A n c) (some (.int .i64 6)) (some (.int .i64 (6 + (k : Int)))) none).run Tryd.prog W = .ok (.slice (dropA A c 6) k (c - 6)) W := by
  intro W
  have he : Tryd.prog.elem 22 = 5 := by kernel_rfl
  have hu : Tryd.prog.underlying 22 = some (.slice (Tryd.prog.elem 22)) := by rw [he]; exact Tryd.underlying22
  rw [run_slice_lh (w := W) 22 A n c hu .i64 .i64 6 (6 + (k : Int)) (by omega) (by omega) (by omega), he, Tryd.sizeOf5]
  simp [sliced, dropA, Result.andThen]
  omega
theorem byt_load {w : World} {A : Option Addr} {c : Nat} {b : List UInt8} (hb : Byt w A b) (hc : b.length ≤ c) : Byt w (dropA A c 6) (loadF b) := (hb.drop c 6 hc).take _
set_option maxHeartbeats 8000000 in
theorem rnext11_calls (A : Option Addr) (c : Nat) (b : List UInt8) (w : World) (hb : Byt w A b) (hc : b.length ≤ c) (hl : b.length ≤ 100000) :
    Calls Tryd.prog 14 #[.slice A b.length c] w fun e w' => ∃ A' c', e = .returned (.tuple #[.slice A' (nextF b).1.length c', .int .i64 ((nextF b).2 : Int), .int .i64 (errF b)]) ∧ (∀ W : World, Byt W A b → Byt W A' (nextF b).1) ∧ (A' = none → c' = 0) ∧ Below w.heap.size w w' := by
  have hlz : (b.length : Int) ≤ 100000 := by omega
  by_cases h6 : b.length < 6
  · have hno : ¬ okF b := ok_short h6
    have he : errF b = 110 := by unfold errF; rw [if_neg (fun h => by have := h.1; omega)]
    have hn : nextF b = ([], 0) := by unfold nextF; rw [if_neg hno]
    have d0 : decide ((b.length : Int) < 6) = true := decide_eq_true (by omega)
    rw [he, hn]
    clear he hn hno
    go_enter Tryd.func14, Tryd.ntmps14
    go_wp2_with fail
    go_ret3
    exact ⟨none, 0, rfl, fun _ _ => Byt.nil_ _ _, fun _ => rfl, Below.refl _ _⟩
  · have d0 : decide ((b.length : Int) < 6) = false := decide_eq_false (by omega)
    obtain ⟨g, o, rfl, hg, hcell⟩ := hb.at_ (by omega)
    have c0 := hcell 0 (by omega)
    have c1 := hcell 1 (by omega)
    rw [Nat.add_zero] at c0
    have HNum := Lib.hid (rnum11_calls g o c (b.getD 0 0) (b.getD 1 0) w c0 c1)
    rw [show (b.getD 0 0).toNat + 256 * (b.getD 1 0).toNat = numF b from rfl] at HNum
    have hn64 : numF b < 65536 := by unfold numF; have := (b.getD 0 0).toNat_lt; have := (b.getD 1 0).toNat_lt; omega
    have hc2 : 6 ≤ c := by omega
    have HB := Lib.hid hb
    clear hcell c0 c1 hb
    by_cases h1 : 1000 < numF b
    · have hno : ¬ okF b := fun h => by have := h.1.2.1; omega
      have he : errF b = 110 := by unfold errF; rw [if_neg (fun h => by have := h.2.1; omega)]
      have hn : nextF b = ([], 0) := by unfold nextF; rw [if_neg hno]
      have d1 : decide (1000 < (numF b : Int)) = true := decide_eq_true (by omega)
      rw [he, hn]
      clear he hn hno
      generalize numF b = nf at *
      go_enter Tryd.func14, Tryd.ntmps14
      go_wp2_with fail
      refine HNum.out.mono ?_
      rintro e w1 ⟨rfl, rfl⟩
      go_wp2_with fail
      go_ret3
      exact ⟨none, 0, rfl, fun _ _ => Byt.nil_ _ _, fun _ => rfl, Below.refl _ _⟩
    · have d1 : decide (1000 < (numF b : Int)) = false := decide_eq_false (by omega)
      have hsub : IntKind.i64.wrap ((b.length : Int) - 6) = (b.length : Int) - 6 := IntWalk.i64_in _ (by omega)
      by_cases h2 : b.length - 6 < numF b
      · have hno : ¬ okF b := fun h => by have := h.1.2.2; omega
        have he : errF b = 110 := by unfold errF; rw [if_neg (fun h => by have := h.2.2; omega)]
        have hn : nextF b = ([], 0) := by unfold nextF; rw [if_neg hno]
        have d2 : decide ((b.length : Int) - 6 < (numF b : Int)) = true := decide_eq_true (by omega)
        rw [he, hn]
        clear he hn hno
        generalize numF b = nf at *
        go_enter Tryd.func14, Tryd.ntmps14
        go_wp2_with fail
        refine HNum.out.mono ?_
        rintro e w1 ⟨rfl, rfl⟩
        go_wp2_with fail
        refine HNum.out.mono ?_
        rintro e w1 ⟨rfl, rfl⟩
        go_wp2_with fail
        go_ret3
        exact ⟨none, 0, rfl, fun _ _ => Byt.nil_ _ _, fun _ => rfl, Below.refl _ _⟩
      · have hform : formF b := ⟨by omega, by omega, by omega⟩
        have d2 : decide ((b.length : Int) - 6 < (numF b : Int)) = false := decide_eq_false (by omega)
        have hln := loadF_length hform
        have hbl := byt_load HB.out hc
        have hdn : dropA (some ⟨g, o, none⟩) c 6 = none → c - 6 = 0 := fun h => by unfold dropA at h; split at h <;> cases h
        have HPk := Lib.hid (rpack11_calls (dropA (some ⟨g, o, none⟩) c 6) (c - 6) (loadF b) w hbl hdn (by omega))
        have HLoad := Lib.hid hbl
        have HDn := Lib.hid hdn
        have HForm := Lib.hid hform
        rw [hln] at HPk
        have HLn := Lib.hid hln
        have hb6 : numF b + 6 ≤ b.length := by have := hform.2.2; have := hform.1; omega
        have HTake := Lib.hid (HB.out.take (6 + numF b))
        have htl : (b.take (6 + numF b)).length = 6 + numF b := by rw [List.length_take]; omega
        have HTl := Lib.hid htl
        have hrun := run_load (some ⟨g, o, none⟩) b.length c (numF b) (by omega)
        have hz1 : (6 : Int) ≤ 6 + (numF b : Int) := by omega
        have hz2 : 6 + (numF b : Int) ≤ (c : Int) := by omega
        clear hform hln hbl h1 h2 hdn htl
        generalize hdA : dropA (some ⟨g, o, none⟩) c 6 = DA at *
        have hnx : (if packF (loadF b) = b.take (6 + numF b) then errF b = 0 ∧ nextF b = (loadF b, 6 + numF b) else errF b = 111 ∧ nextF b = ([], 0)) := by
          unfold errF nextF okF
          simp only [HForm.out, if_true, true_and]
          split
          · exact ⟨rfl, rfl⟩
          · exact ⟨rfl, rfl⟩
        by_cases hok : packF (loadF b) = b.take (6 + numF b)
        · rw [if_pos hok] at hnx
          rw [hnx.1, hnx.2]
          clear hnx
          have HOk := Lib.hid hok
          clear hok
          go_enter Tryd.func14, Tryd.ntmps14
          go_wp2_with fail
          refine HNum.out.mono ?_
          rintro e w1 ⟨rfl, rfl⟩
          go_wp2_with fail
          refine HNum.out.mono ?_
          rintro e w1 ⟨rfl, rfl⟩
          go_wp2_with fail
          refine HNum.out.mono ?_
          rintro e w1 ⟨rfl, rfl⟩
          go_wp2_with fail
          refine HPk.out.mono ?_
          rintro e w2 ⟨A2, c2, rfl, hown2, hb2⟩
          have hb2' := (byt_of_own hown2).1
          have e1 := conv_strE hb2'.drew c2
          have e2 := conv_strE (HTake.out.below hb2).drew c
          rw [← HOk.out] at e2
          have hpl : (packF (loadF b)).length = 6 + numF b := by rw [packF_length, HLn.out]
          rw [hpl] at e1 e2
          rw [hpl]
          have HR := Lib.hid (And.intro (HLoad.out.below hb2) hb2)
          clear hown2 hb2 hb2' hpl
          go_wp2_with fail
          go_region
          go_wp2_with fail
          go_ret3
          rw [HLn.out]
          exact ⟨DA, c - 6, rfl, fun W hW => by rw [← hdA]; exact byt_load hW hc, HDn.out, HR.out.2.drew⟩
        · rw [if_neg hok] at hnx
          rw [hnx.1, hnx.2]
          clear hnx
          have HOk := Lib.hid hok
          clear hok
          go_enter Tryd.func14, Tryd.ntmps14
          go_wp2_with fail
          refine HNum.out.mono ?_
          rintro e w1 ⟨rfl, rfl⟩
          go_wp2_with fail
          refine HNum.out.mono ?_
          rintro e w1 ⟨rfl, rfl⟩
          go_wp2_with fail
          refine HNum.out.mono ?_
          rintro e w1 ⟨rfl, rfl⟩
          go_wp2_with fail
          refine HPk.out.mono ?_
          rintro e w2 ⟨A2, c2, rfl, hown2, hb2⟩
          have hb2' := (byt_of_own hown2).1
          have e1 := conv_strE hb2'.drew c2
          have e2 := conv_strE (HTake.out.below hb2).drew c
          have hpl : (packF (loadF b)).length = 6 + numF b := by rw [packF_length, HLn.out]
          rw [hpl] at e1
          rw [HTl.out] at e2
          rw [hpl]
          have t1 : (packF (loadF b) == b.take (6 + numF b)) = false := by simpa using HOk.out
          have HR := Lib.hid hb2
          clear hown2 hb2 hb2' hpl
          generalize packF (loadF b) = pk at *
          generalize b.take (6 + numF b) = tk at *
          go_wp2_with fail
          go_region
          go_wp2_with fail
          go_ret3
          exact ⟨none, 0, rfl, fun _ _ => Byt.nil_ _ _, fun _ => rfl, HR.out.drew⟩
end Go.Proofs.YtjfikdldabmciaaDoor
