/-
  SumTold (layer 9).
-/
import Derived.Test.YtonjlkakbboplaaDoorSumAlive
import Derived.Test.YtonjlkakbboplaaDoorToldMath
import Derived.Test.YtonjlkakbboplaaDoorRowB
import Derived.Test.YtonjlkakbboplaaDoorRowW
import Derived.Laws.BitsAllLaws
import Derived.RegionTactic
import Derived.ChangeAlike
namespace Go.Proofs.YtonjlkakbboplaaDoor
open Go Go.RowKit
set_option maxRecDepth 100000

abbrev vU8 : UInt8 → Value := fun u => Value.int .u8 (u.toNat : Int)
theorem mask_bit (mask : BitVec 32) (j : Nat) : (bits .and .u32 ((mask.toNat : Int) / 2 ^ j) 1 == 1) = mask.getLsbD j := by
  have e1 : (mask.toNat : Int) / 2 ^ j = ((mask.toNat / 2 ^ j : Nat) : Int) := by simp
  have hlt : mask.toNat / 2 ^ j < 4294967296 := Nat.lt_of_le_of_lt (Nat.div_le_self _ _) mask.isLt
  rw [e1, show (1 : Int) = ((1 : Nat) : Int) from rfl, u32_and_nat _ _ hlt (by decide), Nat.and_one_is_mod]
  show _ = mask.toNat.testBit j
  rw [Nat.testBit_eq_decide_div_mod_eq]
  by_cases h : mask.toNat / 2 ^ j % 2 = 1
  · rw [decide_eq_true h, h]; rfl
  · rw [decide_eq_false h]; exact beq_eq_false_iff_ne.2 (by omega)
set_option maxHeartbeats 4000000 in
theorem lstold_calls (A : Option Addr) (c : Nat) (b : List UInt8) (n : Int) (mask : BitVec 32) (w : World) (hb : Byt w A b) (hA : A = none → c = 0) (hm : b.length ≤ 9223372036854775807) (hn1 : -9223372036854775808 ≤ n) (hn2 : n ≤ 9223372036854775807) (ht : Lays w) :
    Calls Tryd.prog 9 #[.slice A b.length c, .int .i64 n, .int .u32 (mask.toNat : Int)] w fun e w' => e = .returned (.bool true) ∧ Below w.heap.size w w' := by
  obtain ⟨i1, hi1, hy0, hy1, hy2⟩ := info_parts info8
  have HB := Lib.hid hb
  have HA := Lib.hid hA
  have HT := Lib.hid ht
  clear ht
  clear hb hA
  go_enter Tryd.func9, Tryd.ntmps9
  by_cases h1 : 600 < b.length
  · have g1 : (600 : Int) < (b.length : Int) := by omega
    go_wp2_with fail
    refine (salive_calls w HT.out).mono ?_
    rintro _ w1 ⟨rfl, hb1⟩
    have HB1 := Lib.hid hb1
    clear hb1
    go_wp2_with fail
    go_ret
    exact ⟨rfl, HB1.out⟩
  have g1 : ¬ (600 : Int) < (b.length : Int) := by omega
  by_cases h2 : n < 0
  · go_wp2_with fail
    refine (salive_calls w HT.out).mono ?_
    rintro _ w1 ⟨rfl, hb1⟩
    have HB1 := Lib.hid hb1
    clear hb1
    go_wp2_with fail
    go_ret
    exact ⟨rfl, HB1.out⟩
  by_cases h3 : mask = 0#32
  · subst h3
    go_wp2_with fail
    refine (salive_calls w HT.out).mono ?_
    rintro _ w1 ⟨rfl, hb1⟩
    have HB1 := Lib.hid hb1
    clear hb1
    go_wp2_with fail
    go_ret
    exact ⟨rfl, HB1.out⟩
  have g3 : ((mask.toNat : Int) == 0) = false := beq_eq_false_iff_ne.2 (fun e => h3 (BitVec.eq_of_toNat_eq (by simpa using e)))
  obtain ⟨k, rfl⟩ : ∃ k : Nat, n = (k : Int) := ⟨n.toNat, by omega⟩
  have k4 := (Below.refl w.heap.size w).alloc (Nat.le_refl _) (.cells #[] 5)
  obtain ⟨v5, w5, hrun5, hown5, hg5⟩ := run_append_byt (P := Tryd.prog) (w.alloc (.cells #[] 5)) w.heap.size 22 22 i1 Tryd.underlying22 hi1 hy0 hy1 hy2 (.slice (some ⟨w.heap.size, 0, none⟩) 0 0) [] (own_empty w w.heap.size (Nat.le_refl _)) A c b HA.out (HB.out.below k4) (by simp; omega) (by simp)
  have k5 : Below w.heap.size w w5 := below_own k4 hg5 (own_empty w w.heap.size (Nat.le_refl _)) (Nat.le_refl _) k4.size
  simp only [List.nil_append] at hown5
  obtain ⟨A5, c5, rfl⟩ := own_form hown5
  have hW5 : RowW vU8 w5 (fun i => w.heap.size ≤ i) A5 b := rowW_of_own hown5 (fun g hg => (hown5.lt g hg).1)
  have Hr5 := Lib.hid hrun5
  have K5 := Lib.hid k5
  have HW5 := Lib.hid hW5
  have H3 := Lib.hid h3
  clear hrun5 hown5 hg5 k4 k5 hW5 h3
  go_wp2_with (at_builtin; refine wpList_append_g (o := ⟨some 24, _, _, _, _, _⟩) (by kernel_rfl) (.tmp 22) (.tmp 23) 22 rfl _ _ rfl rfl Hr5.out ?_)
  clear Hr5
  go_wp2_with fail
  go_loopw [8, 9, 25] (fun v8 v9 v25 wr => ∃ j : Nat, j ≤ 32 ∧ v25 = .int .i64 (j : Int) ∧ Hid (∀ i, i < j → mask.getLsbD i = true → k + i < 8 * b.length) ∧ Hid (RowW vU8 wr (fun i => w.heap.size ≤ i) A5 (turnsL b k mask j)) ∧ Hid (Below w.heap.size w wr)) (fun _ _ v25 _ => 32 - (intOf v25).toNat)
  case atStart => exact ⟨0, Nat.zero_le _, rfl, Lib.hid (fun i hi => by omega), HW5, K5⟩
  case round =>
    obtain ⟨j, hj, rfl, hin, hW, hbel⟩ := hrel
    by_cases hj32 : j < 32
    · have hjl : (j : Int) < 32 := by omega
      have HTS := Lib.hid (turnsL_s b k mask j)
      have HLen := Lib.hid (turnsL_length b k mask j)
      have hq := mask_bit mask j
      by_cases hqt : mask.getLsbD j = true
      · rw [hqt] at hq
        have HTS2 : Hid (turnsL b k mask (j + 1) = turn1 (turnsL b k mask j) (k + j)) := Lib.hid (by rw [HTS.out, if_pos hqt])
        obtain ⟨z, hz⟩ : ∃ z, z = IntKind.i64.wrap ((k : Int) + (j : Int)) := ⟨_, rfl⟩
        have hzz : IntKind.i64.wrap ((k : Int) + (j : Int)) = z := hz.symm
        rw [IntKind.wrap_i64] at hz
        have h8 : IntKind.i64.wrap (8 * (b.length : Int)) = 8 * (b.length : Int) := IntWalk.i64_in _ (by omega)
        by_cases hz1 : 8 * (b.length : Int) ≤ z
        · clear hz HTS
          go_wp2_with fail
          refine (salive_calls wr (HT.out.on hbel.out)).mono ?_
          rintro _ w6 ⟨rfl, hb6⟩
          have HB6 := Lib.hid (hbel.out.trans (hb6.mono hbel.out.size))
          clear hb6
          go_wp2_with fail
          go_ret
          exact ⟨rfl, HB6.out⟩
        by_cases hz2 : z < 0
        · clear hz HTS
          go_wp2_with fail
          refine (salive_calls wr (HT.out.on hbel.out)).mono ?_
          rintro _ w6 ⟨rfl, hb6⟩
          have HB6 := Lib.hid (hbel.out.trans (hb6.mono hbel.out.size))
          clear hb6
          go_wp2_with fail
          go_ret
          exact ⟨rfl, HB6.out⟩
        obtain ⟨a, rfl⟩ : ∃ a : Nat, z = (a : Int) := ⟨z.toNat, by omega⟩
        have ha : a = k + j := by omega
        have ha8 : a < 8 * b.length := by omega
        have hdv : (a : Int) / 8 = ((a / 8 : Nat) : Int) := by omega
        have hmd : (a : Int) % 8 = ((a % 8 : Nat) : Int) := by omega
        have hdl : a / 8 < b.length := by omega
        have hdli : ((a / 8 : Nat) : Int) < (b.length : Int) := by omega
        have hm8 : a % 8 < 8 := by omega
        have hlT : a / 8 < (turnsL b k mask j).length := by rw [HLen.out]; omega
        obtain ⟨g5, o5, rfl, hR5, hg5, hc5⟩ := hW.out (by omega)
        have hcx := hc5 (a / 8) ((turnsL b k mask j).getD (a / 8) 0) (by rw [List.getD_eq_getElem?_getD, List.getElem?_eq_getElem hlT]; rfl)
        obtain ⟨c1, f1⟩ := hcx
        have hX2 : Hid (RowW vU8 (wr.setCell ⟨g5, o5 + a / 8, none⟩ (.int .u8 (((turnsL b k mask j).getD (a / 8) 0 ^^^ UInt8.ofNat (2 ^ (a % 8))).toNat : Int))) (fun i => w.heap.size ≤ i) (some ⟨g5, o5, none⟩) (turnsL b k mask (j + 1))) := Lib.hid (by
          rw [HTS2.out, ← ha]
          exact hW.out.set (a / 8) hlT _)
        have hkj : k + j < 8 * b.length := by omega
        clear hz HTS hc5 ha
        generalize (turnsL b k mask j).getD (a / 8) 0 = x at *
        generalize a / 8 = e at *
        generalize a % 8 = f at *
        have hfl : 2 ^ f < 256 := by
          have : 2 ^ f ≤ 2 ^ 7 := Nat.pow_le_pow_right (by decide) (by omega)
          omega
        have hxo : bits .xor .u8 (x.toNat : Int) (2 ^ f % 256) = ((x ^^^ UInt8.ofNat (2 ^ f)).toNat : Int) := by
          have e2 : ((2 : Int) ^ f % 256) = ((2 ^ f : Nat) : Int) := by
            have : ((2 ^ f : Nat) : Int) = (2 : Int) ^ f := by simp
            rw [← this]
            generalize 2 ^ f = P at *
            omega
          rw [e2, u8_xor_nat _ _ x.toNat_lt hfl, UInt8.toNat_xor, UInt8.toNat_ofNat', Nat.mod_eq_of_lt hfl]
        obtain ⟨y, hy⟩ : ∃ y : UInt8, x ^^^ UInt8.ofNat (2 ^ f) = y := ⟨_, rfl⟩
        rw [hy] at hxo hX2
        have HBs := Lib.hid (hbel.out.setCell (p := ⟨g5, o5 + e, none⟩) hR5 (.int .u8 (y.toNat : Int)))
        have HIn : Hid (∀ i, i < j + 1 → mask.getLsbD i = true → k + i < 8 * b.length) := Lib.hid (fun i hi hmi => by
          by_cases e : i = j
          · omega
          · exact hin.out i (by omega) hmi)
        clear hR5 hfl ha8 hW hin hy
        go_wp2_with fail
        go_region
        go_wp2_with fail
        go_roundw
        case rel => exact ⟨j + 1, by omega, by go_num, HIn, Lib.hid (hX2.out : RowW vU8 _ _ _ _), Lib.hid HBs.out.drew⟩
        case measure => simp [intOf]; omega
      · have hqf : mask.getLsbD j = false := by simpa using hqt
        rw [hqf] at hq
        have HTS2 : Hid (turnsL b k mask (j + 1) = turnsL b k mask j) := Lib.hid (by rw [HTS.out, if_neg hqt])
        clear HTS
        go_wp2_with fail
        go_roundw
        case rel => exact ⟨j + 1, by omega, by go_num, Lib.hid (fun i hi hmi => by
          by_cases e : i = j
          · rw [e, hqf] at hmi; cases hmi
          · exact hin.out i (by omega) hmi), by rw [HTS2.out]; exact hW, hbel⟩
        case measure => simp [intOf]; omega
    · obtain rfl : j = 32 := by omega
      have HLen := Lib.hid (turnsL_length b k mask 32)
      have HTd := Lib.hid (told_turns b k mask H3.out hin.out)
      obtain hW5 := hW.out.rd
      have hby : Byt wr A5 (turnsL b k mask 32) := by
        by_cases h0 : turnsL b k mask 32 = []
        · rw [h0]; exact Byt.nil_ _ _
        · obtain ⟨g, o, rfl, hg, hc⟩ := hW5 (List.length_pos_iff.2 h0)
          exact Byt.mk_ fun i hi => by
            have := hc i ((turnsL b k mask 32).getD i 0) (by rw [List.getD_eq_getElem?_getD, List.getElem?_eq_getElem hi]; rfl)
            exact this
      have HBy := Lib.hid hby
      have hne : (((crcL (turnsL b k mask 32)).toNat : Int) != ((crcL b).toNat : Int)) = true := by
        rw [bne_iff_ne]
        intro e
        exact HTd.out (BitVec.eq_of_toNat_eq (by omega))
      clear hby hW5 hW hin HTd
      have hlen := HLen.out
      generalize turnsL b k mask 32 = d at *
      go_wp2_with fail
      refine (salive_calls wr (HT.out.on hbel.out)).mono ?_
      rintro _ w6 ⟨rfl, hb6⟩
      have HB6 := Lib.hid (hbel.out.trans (hb6.mono hbel.out.size))
      have HBy6 := Lib.hid (HBy.out.below hb6)
      clear hb6 HBy
      go_wp2_with fail
      have hofd := sof_calls A5 c5 d w6 HBy6.out (by omega) (HT.out.on HB6.out)
      rw [hlen] at hofd
      refine hofd.mono ?_
      rintro _ w7 ⟨rfl, hb7⟩
      have HB7 := Lib.hid (HB6.out.trans (hb7.mono HB6.out.size))
      clear hb7 HBy6 hofd
      have hofb := sof_calls A c b w7 (HB.out.below HB7.out) (by omega) (HT.out.on HB7.out)
      go_wp2_with fail
      refine hofb.mono ?_
      rintro _ w8 ⟨rfl, hb8⟩
      have HB8 := Lib.hid (HB7.out.trans (hb8.mono HB7.out.size))
      clear hb8 hofb
      go_wp2_with fail
      go_ret
      exact ⟨rfl, HB8.out⟩
end Go.Proofs.YtonjlkakbboplaaDoor
