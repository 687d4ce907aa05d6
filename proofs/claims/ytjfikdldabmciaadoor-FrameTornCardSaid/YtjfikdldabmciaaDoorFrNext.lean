/-
  Package frame: Next (layer 11).
-/
import Derived.Test.YtjfikdldabmciaaDoorFrPack
import Derived.BigRegion
namespace Go.Proofs.YtjfikdldabmciaaDoor
open Go Go.RowKit
set_option maxRecDepth 100000

/-- What stands where the sum is told. -/
def sumF (b : List UInt8) : BitVec 32 := BitVec.ofNat 32 (readN (b.drop 2))
theorem sumF_nat (b : List UInt8) : (sumF b).toNat = readN (b.drop 2) := by
  unfold sumF
  rw [BitVec.toNat_ofNat]
  exact Nat.mod_eq_of_lt (readN_lt _)
theorem err_form {b : List UInt8} (h : ¬ formF b) : errF b = 110 ∧ nextF b = ([], 0) := by
  unfold errF nextF
  rw [if_neg h, if_neg (fun h1 : okF b => h h1.1)]
  exact ⟨rfl, rfl⟩
theorem err_sum {b : List UInt8} (h : formF b) (hs : crcL (b.take 2 ++ loadF b) ≠ sumF b) : errF b = 111 ∧ nextF b = ([], 0) := by
  have h1 : ¬ packF (loadF b) = b.take (6 + numF b) := fun e => hs ((ok_sum h).1 e)
  unfold errF nextF
  rw [if_pos h, if_neg h1, if_neg (fun h2 : okF b => h1 h2.2)]
  exact ⟨rfl, rfl⟩
theorem err_none {b : List UInt8} (h : formF b) (hs : crcL (b.take 2 ++ loadF b) = sumF b) : errF b = 0 ∧ nextF b = (loadF b, 6 + numF b) := by
  have h1 : packF (loadF b) = b.take (6 + numF b) := (ok_sum h).2 hs
  unfold errF nextF
  rw [if_pos h, if_pos h1, if_pos (show okF b from ⟨h, h1⟩)]
  exact ⟨rfl, rfl⟩
theorem u32_ne (s t : BitVec 32) : ((s.toNat : Int) != (t.toNat : Int)) = !decide (s = t) := by
  by_cases h : s = t
  · subst h; simp
  · rw [decide_eq_false h]
    simp only [Bool.not_false, bne_iff_ne]
    exact fun e => h (BitVec.eq_of_toNat_eq (by omega))
set_option maxHeartbeats 4000000 in
theorem fnext11_calls (A : Option Addr) (c : Nat) (b : List UInt8) (w : World) (hb : Byt w A b) (hA : A = none → c = 0) (hc : b.length ≤ c) (hl : b.length ≤ 100000) (ht : LaysR w) :
    Calls Tryd.prog 13 #[.slice A b.length c] w fun e w' => ∃ A' c', e = .returned (.tuple #[.slice A' (nextF b).1.length c', .int .i64 ((nextF b).2 : Int), .int .i64 (errF b)]) ∧ w'.ownsRow w.heap.size 5 1 (.slice A' (nextF b).1.length c') (nextF b).1.length (Lib.byteCells (nextF b).1) ∧ Below w.heap.size w w' := by
  by_cases h6 : b.length < 6
  · obtain ⟨he, hn⟩ := err_form (b := b) (fun h => by have := h.1; omega)
    rw [he, hn]
    have d0 : decide ((b.length : Int) < 6) = true := decide_eq_true (by omega)
    clear he hn hb hA hc hl ht
    go_enter Tryd.func13, Tryd.ntmps13
    go_wp2_with fail
    go_ret3
    exact ⟨none, 0, rfl, World.ownsRow_nil _ _ _ _, Below.refl _ _⟩
  · have d0 : decide ((b.length : Int) < 6) = false := decide_eq_false (by omega)
    obtain ⟨g, o, rfl, hg, hcell⟩ := hb.at_ (by omega)
    have c0 := hcell 0 (by omega)
    have c1 := hcell 1 (by omega)
    rw [Nat.add_zero] at c0
    have hx := (b.getD 0 0).toNat_lt
    have hy := (b.getD 1 0).toNat_lt
    have hnum : numF b = (b.getD 0 0).toNat + 256 * (b.getD 1 0).toNat := rfl
    have HForm : Hid (formF b ↔ numF b ≤ 1000 ∧ numF b ≤ b.length - 6) := Lib.hid ⟨fun h => h.2, fun h => ⟨by omega, h⟩⟩
    have hsub : IntKind.i64.wrap ((b.length : Int) - 6) = (b.length : Int) - 6 := IntWalk.i64_in _ (by omega)
    have hn64 : numF b < 65536 := by omega
    have hB0 : (0 : Int) < (b.length : Int) := by omega
    have hB1 : (1 : Int) < (b.length : Int) := by omega
    have hsum : IntKind.i64.wrap (((b.getD 0 0).toNat : Int) + ((b.getD 1 0).toNat : Int) * 256) = (numF b : Int) := by rw [IntWalk.i64_in _ (by omega), hnum]; omega
    have hmul : IntKind.i64.wrap (((b.getD 1 0).toNat : Int) * 256) = ((b.getD 1 0).toNat : Int) * 256 := IntWalk.i64_in _ (by omega)
    have HB := Lib.hid hb
    have HC := Lib.hid hc
    have HL := Lib.hid hl
    have HT := Lib.hid ht
    have HNum := Lib.hid hnum
    clear hcell hb hc hl ht hA hnum
    generalize hx0 : (b.getD 0 0).toNat = x at *
    generalize hy0 : (b.getD 1 0).toNat = y at *
    clear hx0 hy0
    by_cases h1 : 1000 < numF b
    · obtain ⟨he, hn⟩ := err_form (b := b) (fun h => by have := h.2.1; omega)
      have d1 : decide (1000 < (numF b : Int)) = true := decide_eq_true (by omega)
      rw [he, hn]
      clear he hn h1 hsub
      go_enter Tryd.func13, Tryd.ntmps13
      go_wp2_with fail
      go_region
      go_wp2_with fail
      go_ret3
      exact ⟨none, 0, rfl, World.ownsRow_nil _ _ _ _, (Below.refl _ _).drew⟩
    · have d1 : decide (1000 < (numF b : Int)) = false := decide_eq_false (by omega)
      by_cases h2 : b.length - 6 < numF b
      · obtain ⟨he, hn⟩ := err_form (b := b) (fun h => by have := h.2.2; omega)
        have d2 : decide ((b.length : Int) - 6 < (numF b : Int)) = true := decide_eq_true (by omega)
        rw [he, hn]
        clear he hn h1 h2
        go_enter Tryd.func13, Tryd.ntmps13
        go_wp2_with fail
        go_region
        go_wp2_with fail
        go_ret3
        exact ⟨none, 0, rfl, World.ownsRow_nil _ _ _ _, (Below.refl _ _).drew⟩
      · have d2 : decide ((b.length : Int) - 6 < (numF b : Int)) = false := decide_eq_false (by omega)
        have hform : formF b := ⟨by omega, by omega, by omega⟩
        have hln := loadF_length hform
        have hb6 : numF b + 6 ≤ b.length := by omega
        have hbd := HB.out.drew
        have hbl : Byt w.drew (dropA (some ⟨g, o, none⟩) c 6) (loadF b) := byt_load hbd HC.out
        have hdn : ∀ k, dropA (some ⟨g, o, none⟩) c k = none → c - k = 0 := fun k h => by unfold dropA at h; split at h <;> cases h
        have hc := HC.out
        have hrun6 := run_load (some ⟨g, o, none⟩) b.length c (numF b) (by omega)
        have hl2 : (b.drop 2).length = b.length - 2 := List.length_drop
        have ht2 : (b.take 2).length = 2 := by rw [List.length_take]; omega
        have hrd := sread_calls (dropA (some ⟨g, o, none⟩) c 2) (c - 2) (b.drop 2) w.drew (hbd.drop c 2 hc) (by rw [hl2]; have := HL.out; omega)
        rw [if_pos (by omega), decide_eq_true (by omega), hl2, ← sumF_nat] at hrd
        have hd2 : dropA (some ⟨g, o, none⟩) c 2 = some ⟨g, o + 2, none⟩ := by unfold dropA; rw [if_neg (by omega)]; simp [Addr.add]
        rw [hd2] at hrd
        have HRd := Lib.hid hrd
        have HLd := Lib.hid hbl
        have HDn := Lib.hid (hdn 6)
        have HLn := Lib.hid hln
        have HTk := Lib.hid (hbd.take 2)
        have HT2 := Lib.hid ht2
        have HTd : Hid (LaysR w.drew) := Lib.hid (HT.out.on (Below.refl _ w).drew)
        have HBd : Hid (Below w.heap.size w w.drew) := Lib.hid (Below.refl _ w).drew
        have HF := Lib.hid hform
        have hz1 : (6 : Int) ≤ 6 + (numF b : Int) := by omega
        have hz2 : 6 + (numF b : Int) ≤ (c : Int) := by omega
        have hw6 : IntKind.i64.wrap (6 + (numF b : Int)) = 6 + (numF b : Int) := IntWalk.i64_in _ (by omega)
        have HCt := Lib.hid (show crcL (b.take 2 ++ loadF b) = sumF b ∨ crcL (b.take 2 ++ loadF b) ≠ sumF b from Decidable.em _)
        have HN6 := Lib.hid hb6
        have HN1 := Lib.hid h1
        clear hrd hbl hdn hln ht2 hl2 hbd hform hc hb6 h1 h2 hd2
        generalize hd6 : dropA (some ⟨g, o, none⟩) c 6 = D6 at *
        clear hd6
        go_enter Tryd.func13, Tryd.ntmps13
        go_wp2_with fail
        go_region
        go_wp2_with fail
        refine HRd.out.mono ?_
        rintro e w1 ⟨rfl, hb1⟩
        have HB1 := Lib.hid (HBd.out.trans (hb1.mono HBd.out.size))
        have hsm := sumof11_calls (some ⟨g, o, none⟩) D6 c (c - 6) (b.take 2) (loadF b) w1 (HTk.out.below hb1) (HLd.out.below hb1) (by rw [HT2.out]; omega) (by rw [HLn.out]; omega) (HTd.out.on hb1)
        rw [HT2.out, HLn.out] at hsm
        have HSm := Lib.hid hsm
        have HLd1 := Lib.hid (HLd.out.below hb1)
        clear hb1 HRd hsm HLd HTk HTd
        go_wp2_with fail
        refine HSm.out.mono ?_
        rintro e w2 ⟨rfl, hb2⟩
        have HB2 := Lib.hid (HB1.out.trans (hb2.mono HB1.out.size))
        have hcl := clone11_calls D6 (c - 6) (loadF b) w2 (HLd1.out.below hb2) HDn.out (by rw [HLn.out]; omega)
        rw [HLn.out] at hcl
        have HCl := Lib.hid hcl
        have hne := u32_ne (sumF b) (crcL (b.take 2 ++ loadF b))
        clear hb2 HSm HLd1 hcl HB1
        rcases HCt.out with hct | hct
        · obtain ⟨he, hn⟩ := err_none HF.out hct
          rw [decide_eq_true hct.symm] at hne
          have HNN := Lib.hid (And.intro he hn)
          clear he hn hct HCt
          go_wp2_with fail
          refine HCl.out.mono ?_
          rintro e w3 ⟨A3, c3, rfl, hown3, hb3⟩
          have HB3 := Lib.hid (HB2.out.trans (hb3.mono HB2.out.size))
          have HO3 := Lib.hid (own_less hown3 HB2.out.size)
          clear hown3 hb3 HCl
          go_wp2_with fail
          go_ret3
          rw [HNN.out.1, HNN.out.2]
          refine ⟨A3, c3, ?_, ?_, HB3.out⟩
          · show _ = Ending.returned (.tuple #[.slice A3 (loadF b).length c3, .int .i64 ((6 + numF b : Nat) : Int), .int .i64 0])
            rw [HLn.out]
            go_num
          · show w3.ownsRow w.heap.size 5 1 (.slice A3 (loadF b).length c3) (loadF b).length (Lib.byteCells (loadF b))
            rw [HLn.out]
            exact HO3.out
        · obtain ⟨he, hn⟩ := err_sum HF.out hct
          rw [decide_eq_false (fun e => hct e.symm)] at hne
          have HNN := Lib.hid (And.intro he hn)
          clear he hn hct HCt
          go_wp2_with fail
          go_ret3
          rw [HNN.out.1, HNN.out.2]
          exact ⟨none, 0, rfl, World.ownsRow_nil _ _ _ _, HB2.out⟩
end Go.Proofs.YtjfikdldabmciaaDoor
