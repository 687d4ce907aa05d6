/-
  SumParts (layer 9).
-/
import Derived.Test.YtonjlkakbboplaaDoorSumAlive
import Derived.Test.YtonjlkakbboplaaDoorROf
import Derived.Test.YtonjlkakbboplaaDoorRowB
namespace Go.Proofs.YtonjlkakbboplaaDoor
open Go Go.RowKit
set_option maxRecDepth 100000

/-- A slice of slices of bytes that reads as rows of bytes. -/
def RdBs (w : World) (A : Option Addr) (ls : List (List UInt8)) : Prop := 0 < ls.length → ∃ g o, A = some ⟨g, o, none⟩ ∧ g < w.heap.size ∧ ∀ i l, ls[i]? = some l → ∃ Ai ci, w.cell? ⟨g, o + i, none⟩ = some (.slice Ai l.length ci) ∧ Byt w Ai l ∧ (Ai = none → ci = 0)
theorem RdBs.below {w w' : World} {A : Option Addr} {ls : List (List UInt8)} (h : RdBs w A ls) (hb : Below w.heap.size w w') : RdBs w' A ls := fun hn => by
  obtain ⟨g, o, e, hg, hc⟩ := h hn
  refine ⟨g, o, e, Nat.lt_of_lt_of_le hg hb.size, fun i l hi => ?_⟩
  obtain ⟨Ai, ci, h1, h2, h3⟩ := hc i l hi
  exact ⟨Ai, ci, (hb.cell (p := ⟨g, o + i, none⟩) hg).trans h1, h2.below hb, h3⟩
theorem flat_succ {ls : List (List UInt8)} {k : Nat} {l : List UInt8} (h : ls[k]? = some l) : (ls.take (k + 1)).flatten = (ls.take k).flatten ++ l := by
  rw [List.take_add_one, h, Option.toList_some, List.flatten_append, List.flatten_singleton]
set_option maxHeartbeats 4000000 in
theorem lsparts_calls (A : Option Addr) (c : Nat) (ls : List (List UInt8)) (w : World) (h : RdBs w A ls) (hm : ls.length ≤ 9223372036854775807) (hm2 : ∀ l ∈ ls, l.length ≤ 140737488355328) (ht : Lays w) :
    Calls Tryd.prog 4 #[.slice A ls.length c] w fun e w' => e = .returned (.bool true) ∧ Below w.heap.size w w' := by
  obtain ⟨i1, hi1, hy0, hy1, hy2⟩ := info_parts info8
  have HR := Lib.hid h
  have HT := Lib.hid ht
  clear ht
  have HM2 := Lib.hid hm2
  clear h hm2
  go_enter Tryd.func4, Tryd.ntmps4
  go_wp2_with fail
  have hnil := sof_calls none 0 [] w (Byt.nil_ _ _) (by decide) HT.out
  refine hnil.mono ?_
  rintro _ w1 ⟨rfl, hb1⟩
  have HB1 := Lib.hid hb1
  clear hb1 hnil
  go_wp2_with fail
  go_loopw [3, 4, 6, 10] (fun v3 v4 v6 v10 wr => ∃ k : Nat, k ≤ ls.length ∧ v10 = .int .i64 (k : Int) ∧ v4 = .int .u32 ((crcL (ls.take k).flatten).toNat : Int) ∧ (ls.take k).flatten.length ≤ 600 ∧ Hid (wr.ownsRow w.heap.size 5 1 v3 (ls.take k).flatten.length (Lib.byteCells (ls.take k).flatten)) ∧ Hid (Below w.heap.size w wr)) (fun _ _ _ v10 _ => ls.length - (intOf v10).toNat)
  case atStart => exact ⟨0, Nat.zero_le _, rfl, rfl, Nat.zero_le _, Lib.hid (World.ownsRow_nil _ _ _ _), HB1⟩
  case round =>
    obtain ⟨k, hk, rfl, rfl, h600, hown, hbel⟩ := hrel
    by_cases hlt : k < ls.length
    · have hkl : (k : Int) < (ls.length : Int) := by omega
      obtain ⟨l, hl⟩ : ∃ l, ls[k]? = some l := ⟨_, List.getElem?_eq_getElem hlt⟩
      obtain ⟨g, o, rfl, hg0, hc⟩ := HR.out (by omega)
      obtain ⟨Ai, ci, c00, hbi, hni⟩ := hc k l hl
      have c0 : wr.cell? ⟨g, o + k, none⟩ = some (.slice Ai l.length ci) := (hbel.out.cell (p := ⟨g, o + k, none⟩) hg0).trans c00
      have hg : g < wr.heap.size := Nat.lt_of_lt_of_le hg0 hbel.out.size
      have hll : l.length ≤ 140737488355328 := HM2.out l (List.mem_of_getElem? hl)
      have HF := Lib.hid (flat_succ hl)
      have HBi := Lib.hid hbi
      have HNi := Lib.hid hni
      clear hc hbi hni hl hg0 c00
      generalize (ls.take k).flatten = acc at *
      obtain ⟨A3, c3, rfl⟩ := own_form hown.out
      by_cases hbig : 600 < acc.length + l.length
      · have hs : (600 : Int) < (acc.length : Int) + (l.length : Int) := by omega
        go_wp2_with fail
        refine (salive_calls wr (HT.out.on hbel.out)).mono ?_
        rintro _ w5 ⟨rfl, hb5⟩
        have HB5 := Lib.hid (hbel.out.trans (hb5.mono hbel.out.size))
        clear hb5
        go_wp2_with fail
        go_ret
        exact ⟨rfl, HB5.out⟩
      · have hs : ¬ (600 : Int) < (acc.length : Int) + (l.length : Int) := by omega
        obtain ⟨v5, w5, hrun5, hown5, hg5⟩ := run_append_byt (P := Tryd.prog) wr w.heap.size 22 22 i1 Tryd.underlying22 hi1 hy0 hy1 hy2 _ acc hown.out Ai ci l HNi.out (HBi.out.below hbel.out) (by omega) hbel.out.size
        have k5 : Below w.heap.size w w5 := below_own hbel.out hg5 hown.out (Nat.le_refl _) hbel.out.size
        have k5r : Byt w5 Ai l := HBi.out.below k5
        have Hr5 := Lib.hid hrun5
        have K5 := Lib.hid k5
        have KB := Lib.hid k5r
        have HO5 : Hid (w5.ownsRow w.heap.size 5 1 v5 ((ls.take (k + 1)).flatten).length (Lib.byteCells (ls.take (k + 1)).flatten)) := Lib.hid (by rw [HF.out]; exact hown5)
        have hl6 : ((ls.take (k + 1)).flatten).length ≤ 600 := by rw [HF.out, List.length_append]; omega
        clear hrun5 hown5 hg5 k5 k5r hown
        go_wp2_with (at_builtin; refine wpList_append_g (o := ⟨some 23, _, _, _, _, _⟩) (by kernel_rfl) (.tmp 21) (.tmp 22) 22 rfl _ _ rfl rfl Hr5.out ?_)
        clear Hr5
        go_wp2_with fail
        refine (sadd_calls (crcL acc) Ai ci l w5 KB.out (by omega) (HT.out.on K5.out)).mono ?_
        rintro _ w6 ⟨rfl, hb6⟩
        rw [addL_crc, ← HF.out]
        have HB6 := Lib.hid (K5.out.trans (hb6.mono K5.out.size))
        have HO6 := Lib.hid (own_below HO5.out hb6)
        clear hb6
        go_wp2_with fail
        go_roundw
        case rel => exact ⟨k + 1, by omega, by go_num, rfl, hl6, HO6, HB6⟩
        case measure => simp [intOf]; omega
    · obtain rfl : k = ls.length := by omega
      rw [List.take_length] at *
      obtain ⟨A3, c3, rfl⟩ := own_form hown.out
      have HB3 := Lib.hid (byt_of_own hown.out).1
      generalize ls.flatten = acc at *
      clear hown
      go_wp2_with fail
      refine (salive_calls wr (HT.out.on hbel.out)).mono ?_
      rintro _ w5 ⟨rfl, hb5⟩
      have HBy5 := Lib.hid (HB3.out.below hb5)
      have HB5 := Lib.hid (hbel.out.trans (hb5.mono hbel.out.size))
      clear hb5 HB3
      go_wp2_with fail
      refine (rof_calls A3 c3 acc w5 HBy5.out (by omega)).mono ?_
      rintro _ w6 ⟨rfl, hb6⟩
      have HBy6 := Lib.hid (HBy5.out.below hb6)
      have HB6 := Lib.hid (HB5.out.trans (hb6.mono HB5.out.size))
      clear hb6 HBy5
      go_wp2_with fail
      refine (sof_calls A3 c3 acc w6 HBy6.out (by omega) (HT.out.on HB6.out)).mono ?_
      rintro _ w7 ⟨rfl, hb7⟩
      have HB7 := Lib.hid (HB6.out.trans (hb7.mono HB6.out.size))
      clear hb7 HBy6
      go_wp2_with fail
      go_ret
      exact ⟨rfl, HB7.out⟩
end Go.Proofs.YtonjlkakbboplaaDoor
