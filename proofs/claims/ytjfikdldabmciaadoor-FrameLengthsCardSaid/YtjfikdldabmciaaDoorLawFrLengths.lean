/-
  The walk of FrameLengths (layer 11).
-/
import Derived.Test.YtjfikdldabmciaaDoorFrameC
namespace Go.Proofs.YtjfikdldabmciaaDoor
open Go Go.RowKit
set_option maxRecDepth 100000

theorem run_mid11 (A : Option Addr) (n c i j : Nat) (h : i + j ≤ c) :
    ∀ W : World, (Instr.slice 22 (.slice A n c) (some (.int .i64 (i : Int))) (some (.int .i64 ((i : Int) + (j : Int)))) none).run Tryd.prog W = .ok (.slice (dropA A c i) j (c - i)) W := by
  intro W
  have he : Tryd.prog.elem 22 = 5 := by kernel_rfl
  have hu : Tryd.prog.underlying 22 = some (.slice (Tryd.prog.elem 22)) := by rw [he]; exact Tryd.underlying22
  rw [run_slice_lh (w := W) 22 A n c hu .i64 .i64 (i : Int) ((i : Int) + (j : Int)) (by omega) (by omega) (by omega), he, Tryd.sizeOf5]
  simp [sliced, dropA, Result.andThen]
  omega
set_option maxHeartbeats 4000000 in
theorem frlengths_law (A : Option Addr) (c : Nat) (b : List UInt8) (w : World) (hb : Byt w A b) (hA : A = none → c = 0) (hc : b.length ≤ c) (ht : LaysR w) :
    Calls Tryd.prog 8 #[.slice A b.length c] w fun e w' => e = .returned (.bool true) ∧ Below w.heap.size w w' := by
  have HB := Lib.hid hb
  have HT := Lib.hid ht
  have HA := Lib.hid hA
  have HC := Lib.hid hc
  clear hb ht hA hc
  by_cases h30 : 3000 < b.length
  · have d0 : decide (3000 < (b.length : Int)) = true := decide_eq_true (by omega)
    clear h30
    go_enter Tryd.func8, Tryd.ntmps8
    go_wp2_with fail
    refine (falive11_calls w HT.out).mono ?_
    rintro e w1 ⟨rfl, hb1⟩
    go_wp2_with fail
    go_ret
    exact ⟨rfl, hb1⟩
  · have d0 : decide (3000 < (b.length : Int)) = false := decide_eq_false (by omega)
    have HL := Lib.hid h30
    clear h30
    obtain ⟨hs1, hs2, hs3⟩ := scan_is b
    have HS2 := Lib.hid hs2
    have HS3 := Lib.hid hs3
    have HAt := Lib.hid (fun k (hk : k < (scanF b).1.length) => scan_at b hk)
    have HSn := Lib.hid (fscan11_calls A c b w HB.out HA.out HC.out (by have := HL.out; omega) HT.out)
    clear hs1 hs2 hs3
    generalize scanF b = sc at *
    obtain ⟨l, g⟩ := sc
    simp only at HS2 HS3 HAt HSn
    go_enter Tryd.func8, Tryd.ntmps8
    go_wp2_with fail
    refine HSn.out.mono ?_
    rintro e w1 ⟨A1, c1, rfl, hrd, _, hb1⟩
    have HB1 := Lib.hid hb1
    have HR := Lib.hid hrd
    clear hb1 hrd HSn
    go_wp2_with fail
    go_loopw [5, 21] (fun v5 v21 wr => ∃ k : Nat, k ≤ l.length ∧ v21 = .int .i64 (k : Int) ∧ v5 = .int .i64 ((packsF (l.take k)).length : Int) ∧ Hid (Below w1.heap.size w1 wr)) (fun _ v21 _ => l.length - (intOf v21).toNat)
    case atStart => exact ⟨0, Nat.zero_le _, rfl, rfl, Lib.hid (Below.refl _ _)⟩
    case round =>
      obtain ⟨k, hk, rfl, rfl, hbl⟩ := hrel
      by_cases hlt : k < l.length
      · obtain ⟨g1, o1, Ai, ci, rfl, hcell, hby, hno⟩ := (HR.out.below hbl.out).at11 hlt
        obtain ⟨ha1, ha2⟩ := HAt.out k hlt
        have hp := HS3.out (l.getD k []) (by simp [List.getD, hlt])
        have hkl : (k : Int) < (l.length : Int) := by omega
        have HTk := Lib.hid (packsF_take hlt)
        have HBr : Hid (Below w.heap.size w wr) := Lib.hid (HB1.out.trans (hbl.out.mono HB1.out.size))
        have HPk := Lib.hid (fpack11_calls Ai ci (l.getD k []) wr hby hno hp (HT.out.on HBr.out))
        have hlen := packF_length (l.getD k [])
        have hbb := HL.out
        generalize l.getD k [] = p at *
        have hcn := HC.out
        have hrun := run_mid11 A b.length c (packsF (l.take k)).length (6 + p.length) (by omega)
        have hrun' : ∀ W : World, (Instr.slice 22 (.slice A b.length c) (some (.int .i64 ((packsF (l.take k)).length : Int))) (some (.int .i64 (((packsF (l.take k)).length : Int) + (6 + (p.length : Int))))) none).run Tryd.prog W = .ok (.slice (dropA A c (packsF (l.take k)).length) (6 + p.length) (c - (packsF (l.take k)).length)) W := fun W => by
          have := hrun W
          rw [show ((6 + p.length : Nat) : Int) = 6 + (p.length : Int) by omega] at this
          exact this
        have HSub := Lib.hid ((HB.out.drop c (packsF (l.take k)).length hcn).take (packF p).length)
        rw [ha1] at HSub
        have HA2 := Lib.hid ha2
        have HLen := Lib.hid hlen
        generalize hdA : dropA A c (packsF (l.take k)).length = DA at *
        have HTn : Hid ((packsF (l.take (k + 1))).length = (packsF (l.take k)).length + (6 + p.length)) := Lib.hid (by rw [HTk.out, List.length_append, HLen.out])
        have hq : ((packsF (l.take k)).length : Int) ≤ 3000 := by omega
        have hkb : (k : Int) ≤ 3000 := by have h1 := packsF_ge (l.take k); rw [List.length_take] at h1; omega
        generalize (packsF (l.take k)).length = q at *
        have hw1 : IntKind.i64.wrap ((p.length : Int) + 6) = (p.length : Int) + 6 := IntWalk.i64_in _ (by omega)
        have hw2 : IntKind.i64.wrap ((q : Int) + (6 + (p.length : Int))) = (q : Int) + (6 + (p.length : Int)) := IntWalk.i64_in _ (by omega)
        rw [hlen] at HPk
        clear ha1 ha2 hlen hbb hrun hby hno hcn
        go_wp2_with fail
        refine HPk.out.mono ?_
        rintro e w2 ⟨A2, c2, rfl, hown2, hb2⟩
        have HB2 := Lib.hid (HBr.out.trans (hb2.mono HBr.out.size))
        have HBl2 := Lib.hid (hbl.out.trans (hb2.mono hbl.out.size))
        have hbe := beq_calls A2 DA c2 (c - q) (packF p) (packF p) w2 (byt_of_own (n := (packF p).length) (by rw [HLen.out]; exact hown2)).1 (HSub.out.below HB2.out)
        rw [decide_eq_true rfl, HLen.out] at hbe
        have HBe := Lib.hid hbe
        have t6 : (6 + (p.length : Int) != (p.length : Int) + 6) = false := by rw [Int.add_comm]; exact bne_self_eq_false _
        have t7 : (6 + (p.length : Int) == (p.length : Int) + 6) = true := by rw [Int.add_comm]; exact beq_self_eq_true _
        clear hbe hown2 hb2 HPk hcell
        go_wp2_with fail
        refine HBe.out.mono ?_
        rintro e w3 ⟨rfl, hb3⟩
        have HBl3 := Lib.hid (HBl2.out.trans (hb3.mono HBl2.out.size))
        clear hb3 HBe t6 t7
        go_wp2_with fail
        go_roundw
        case rel => exact ⟨k + 1, by omega, by go_num, by rw [HTn.out]; go_num, HBl3⟩
        case measure => simp [intOf]; omega
      · obtain rfl : k = l.length := by omega
        have HBr : Hid (Below w.heap.size w wr) := Lib.hid (HB1.out.trans (hbl.out.mono HB1.out.size))
        rw [List.take_length, ← HS2.out]
        clear hbl
        go_wp2_with fail
        refine (falive11_calls wr (HT.out.on HBr.out)).mono ?_
        rintro e w2 ⟨rfl, hb2⟩
        have HB2 := Lib.hid (HBr.out.trans (hb2.mono HBr.out.size))
        clear hb2
        go_wp2_with fail
        go_ret
        exact ⟨rfl, HB2.out⟩
end Go.Proofs.YtjfikdldabmciaaDoor
