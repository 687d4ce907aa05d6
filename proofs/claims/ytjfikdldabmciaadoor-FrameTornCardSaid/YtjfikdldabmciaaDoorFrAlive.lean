/-
  The law's alive (layer 11).
-/
import Derived.Test.YtjfikdldabmciaaDoorFrScan
import Derived.Lib.SlBytesConst
import Derived.Deep.RegionLaw
namespace Go.Proofs.YtjfikdldabmciaaDoor
open Go Go.RowKit
set_option maxRecDepth 100000

def ab11 : List UInt8 := [97, 98]
def all11 : List UInt8 := packF ab11 ++ packF [] ++ (packF ab11).take 5
theorem all11_len : all11.length = 19 := by
  unfold all11
  rw [List.length_append, List.length_append, List.length_take, packF_length, packF_length]
  rfl
theorem scan_all11 : scanF all11 = ([ab11, []], 14) := by
  have h := scan_packs [ab11, []] ((packF ab11).take 5) (fun p hp => by
    rcases List.mem_cons.1 hp with rfl | hp
    · decide
    · obtain rfl := List.mem_singleton.1 hp
      decide)
  have e : packsF [ab11, []] ++ (packF ab11).take 5 = all11 := by unfold packsF all11; simp
  have e2 : (packsF [ab11, []]).length = 14 := by unfold packsF; simp [packF_length, ab11]
  have h0 : scanF ((packF ab11).take 5) = ([], 0) := scan_no (ok_short (by rw [List.length_take]; omega))
  rw [h0, e2, e] at h
  exact h
theorem next_ab11 : nextF (packF ab11) = (ab11, 8) ∧ errF (packF ab11) = 0 := by
  have h1 := next_pack ab11 [] (by decide)
  have h2 := ok_pack ab11 [] (by decide)
  rw [List.append_nil] at h1 h2
  exact ⟨h1, err_ok.2 h2⟩
theorem err_noughts (n : Nat) (h : 6 ≤ n) : errF (List.replicate n 0) = 111 ∧ nextF (List.replicate n 0) = ([], 0) := by
  have hn : numF (List.replicate n 0) = 0 := by
    obtain ⟨k, rfl⟩ : ∃ k, n = k + 6 := ⟨n - 6, by omega⟩
    unfold numF; simp [List.getD]
  have hf : formF (List.replicate n 0) := ⟨by rw [List.length_replicate]; exact h, by rw [hn]; omega, by rw [hn]; omega⟩
  have hno := ok_noughts n
  have h1 : ¬ packF (loadF (List.replicate n 0)) = (List.replicate n 0).take (6 + numF (List.replicate n 0)) := fun e => hno ⟨hf, e⟩
  unfold errF nextF
  rw [if_pos hf, if_neg h1, if_neg hno]
  exact ⟨rfl, rfl⟩
theorem byt_litF11 (w : World) (l : List UInt8) (fr : Nat × Nat) : Byt (w.alloc (.cells (Lib.byteCells l).toArray 5 fr)) (some ⟨w.heap.size, 0, none⟩) l :=
  Byt.mk_ fun i hi => by
    rw [Nat.zero_add]
    simp [World.cell?, World.alloc, Lib.byteCells, hi, List.getD, -World.alloc_eq]
theorem conv_litF11 (w : World) (l : List UInt8) : (convert 22 22 (.slice (some ⟨w.heap.size, 0, none⟩) l.length l.length)).run Tryd.prog (w.alloc (.cells (Lib.byteCells l).toArray 5)) = .ok (.slice (some ⟨w.heap.size, 0, none⟩) l.length l.length) (w.alloc (.cells (Lib.byteCells l).toArray 5 (l.length, l.length + 1))) := by
  have h := Lib.run_convert_bytes_const (P := Tryd.prog) w 22 5 (Lib.byteCells l).toArray l.length l.length Tryd.underlying22 Tryd.underlying5
  rwa [show (Lib.byteCells l).toArray.size = l.length by simp [Lib.byteCells]] at h
theorem made_noughts (n : Nat) : (madeCells (Value.int .u8 0).cells (n * 1)).toList = Lib.byteCells (List.replicate n 0) := by
  unfold Lib.byteCells
  rw [List.map_replicate, Nat.mul_one]
  apply List.ext_getElem?
  intro i
  by_cases hi : i < n
  · simp [madeCells, Value.cells, hi, Nat.mod_one]
  · simp [madeCells, Value.cells, hi]
theorem make11 (n : Nat) (w : World) (hn : n ≤ 100000) : ∃ w', (Instr.makeSlice 22 (.int .i64 (n : Int)) (.int .i64 (n : Int))).run Tryd.prog w = .ok (.slice (some ⟨w.heap.size, 0, none⟩) n n) w' ∧
    Byt w' (some ⟨w.heap.size, 0, none⟩) (List.replicate n 0) ∧ w'.ownsRow w.heap.size 5 1 (.slice (some ⟨w.heap.size, 0, none⟩) n n) n (Lib.byteCells (List.replicate n 0)) ∧ Below w.heap.size w w' := by
  obtain ⟨i0, hi0, hz0, hz1, hz2⟩ := info8_11
  obtain ⟨w', h1, h2, h3⟩ := run_makeSlice_full (P := Tryd.prog) w w.heap.size 22 5 i0 (.int .u8 0) 1 Tryd.underlying22 hi0 hz0 hz1 .i64 .i64 n (by omega) (by rw [hz2]; omega) (by unfold maxLen; omega) (Nat.le_refl _)
  rw [made_noughts] at h2
  have h4 : w'.ownsRow w.heap.size 5 1 (.slice (some ⟨w.heap.size, 0, none⟩) n n) (List.replicate n (0 : UInt8)).length (Lib.byteCells (List.replicate n 0)) := by rw [List.length_replicate]; exact h2
  exact ⟨w', h1, (byt_of_own h4).1, h2, (Below.refl _ w).grown h3 (Nat.le_refl _) (fun k e => by cases e)⟩
set_option maxHeartbeats 8000000 in
theorem falive11_calls (w : World) (ht : LaysR w) : Calls Tryd.prog 9 #[] w fun e w' => e = .returned (.bool true) ∧ Below w.heap.size w w' := by
  obtain ⟨i0, hi0, hz0, hz1, hz2⟩ := info8_11
  have hcv : (convert 22 22 (.slice (some ⟨w.heap.size, 0, none⟩) 2 2)).run Tryd.prog (w.alloc (.cells #[.int .u8 97, .int .u8 98] 5)) = .ok (.slice (some ⟨w.heap.size, 0, none⟩) 2 2) (w.alloc (.cells #[.int .u8 97, .int .u8 98] 5 (2, 3))) := conv_litF11 w ab11
  have hd := byt_litF11 w ab11 (2, 3)
  obtain ⟨w1, hw1⟩ : ∃ w1, w.alloc (.cells #[.int .u8 97, .int .u8 98] 5 (2, 3)) = w1 := ⟨_, rfl⟩
  rw [hw1] at hcv
  have hd1 : Byt w1 (some ⟨w.heap.size, 0, none⟩) ab11 := by rw [← hw1]; exact hd
  have hb1 : Below w.heap.size w w1 := by rw [← hw1]; exact (Below.refl _ w).alloc (Nat.le_refl _) _
  have HP1 := Lib.hid ((fpack11_calls (some ⟨w.heap.size, 0, none⟩) 2 ab11 w1 hd1 (fun h => by cases h) (by decide) (ht.on hb1)).mono (fun e w' h => Lib.hid h))
  have HB1 := Lib.hid hb1
  have HT := Lib.hid ht
  clear hd hd1 hb1 hw1 ht
  go_enter Tryd.func9, Tryd.ntmps9
  go_wp2_with fail
  refine HP1.out.mono ?_
  intro e w2 hp2
  obtain ⟨A2, c2, rfl, hown2, hb2⟩ := hp2.out
  have HB2 := Lib.hid (HB1.out.trans (hb2.mono HB1.out.size))
  have HO2 := Lib.hid hown2
  have HP2 := Lib.hid ((fpack11_calls none 0 [] w2 (Byt.nil_ _ _) (fun _ => rfl) (by decide) (HT.out.on HB2.out)).mono (fun e w' h => Lib.hid h))
  rw [show (packF ab11).length = 8 from packF_length _] at *
  clear hp2 hown2 hb2 HP1 HB1 hcv
  go_wp2_with fail
  refine HP2.out.mono ?_
  intro e w3 hp3
  obtain ⟨A3, c3, rfl, hown3, hb3⟩ := hp3.out
  have HB3 := Lib.hid (HB2.out.trans (hb3.mono HB2.out.size))
  have hla : (packF ab11).length = 8 := packF_length _
  have hlb : (packF []).length = 6 := packF_length _
  have ha3 : Byt w3 A2 (packF ab11) := (byt_of_own (l := packF ab11) (by rw [hla]; exact HO2.out)).1.below hb3
  have hc2 := (byt_of_own (l := packF ab11) (by rw [hla]; exact HO2.out)).2.2.1
  have hn2 : A2 = none → c2 = 0 := own_none HO2.out
  have hb3' := (byt_of_own hown3).1
  have hn3 : A3 = none → c3 = 0 := own_none hown3
  have HA3 := Lib.hid ha3
  have HN2 := Lib.hid hn2
  have HScan : Hid (packF ab11 ++ packF [] ++ (packF ab11).take 5 = all11) := Lib.hid rfl
  have HNx := Lib.hid next_ab11
  rw [hla] at hc2
  rw [hlb]
  generalize packF ab11 = pa at *
  generalize packF [] = pb at *
  have hb0 : Below w3.heap.size w3 (w3.drew.alloc (.cells #[] 5)) := ((Below.refl _ w3).drew).alloc (Nat.le_refl _) _
  have hsz0 : (w3.drew.alloc (.cells #[] 5)).heap.size = w3.heap.size + 1 := World.size_alloc _ _
  obtain ⟨v4, u4, r4, o4, g4⟩ := run_append_byt (P := Tryd.prog) (w3.drew.alloc (.cells #[] 5)) w3.heap.size 22 22 i0 Tryd.underlying22 hi0 hz0 hz1 hz2 (.slice (some ⟨w3.heap.size, 0, none⟩) 0 0) [] (own_empty w3.drew w3.heap.size (Nat.le_refl _)) A2 c2 pa hn2 (ha3.below hb0) (by rw [hla]; simp) (by omega)
  have hb4 : Below w3.heap.size w3 u4 := below_own hb0 g4 (own_empty w3.drew w3.heap.size (Nat.le_refl _)) (Nat.le_refl _) (by omega)
  obtain ⟨A4, c4, rfl⟩ := own_form o4
  obtain ⟨v5, u5, r5, o5, g5⟩ := run_append_byt (P := Tryd.prog) u4 w3.heap.size 22 22 i0 Tryd.underlying22 hi0 hz0 hz1 hz2 _ _ o4 A3 c3 pb hn3 (hb3'.below hb4) (by rw [hlb]; simp [hla]) hb4.size
  have hb5 : Below w3.heap.size w3 u5 := below_own hb4 g5 o4 (Nat.le_refl _) hb4.size
  obtain ⟨A5, c5, rfl⟩ := own_form o5
  have ht5 : (pa.take 5).length = 5 := by rw [List.length_take, hla]; rfl
  obtain ⟨v6, u6, r6, o6, g6⟩ := run_append_byt (P := Tryd.prog) u5 w3.heap.size 22 22 i0 Tryd.underlying22 hi0 hz0 hz1 hz2 _ _ o5 A2 c2 (pa.take 5) hn2 ((ha3.take 5).below hb5) (by rw [ht5]; simp [hla, hlb]) hb5.size
  have hb6 : Below w3.heap.size w3 u6 := below_own hb5 g6 o5 (Nat.le_refl _) hb5.size
  obtain ⟨A6, c6, rfl⟩ := own_form o6
  rw [hla] at r4
  rw [hlb, show (([] : List UInt8) ++ pa).length = 8 by simp [hla]] at r5
  rw [ht5, show (([] : List UInt8) ++ pa ++ pb).length = 14 by simp [hla, hlb]] at r6
  rw [List.nil_append, HScan.out] at o6
  have HR4 := Lib.hid r4
  have HR5 := Lib.hid r5
  have HR6 := Lib.hid r6
  have HO6 := Lib.hid o6
  have HB6 := Lib.hid (HB3.out.trans (hb6.mono HB3.out.size))
  have HA6 := Lib.hid (ha3.below hb6)
  clear hp3 hown3 hb3 HP2 r4 r5 r6 o4 o5 o6 g4 g5 g6 hb0 hb4 hb5 hb6 ha3 hb3' hn2 hn3 hsz0 HA3 HO2
  have h52 : (5 : Int) ≤ (c2 : Int) := by omega
  go_wp2_with fail
  go_region_law (first
    | (refine step_append_g (o := ⟨some 31, _, _, _, _, _⟩) (by rfl) (.tmp 29) (.tmp 30) 22 rfl _ _ rfl rfl HR4.out ?_)
    | (refine step_append_g (o := ⟨some 33, _, _, _, _, _⟩) (by rfl) (.tmp 31) (.tmp 32) 22 rfl _ _ rfl rfl HR5.out ?_)
    | (refine step_append_g (o := ⟨some 36, _, _, _, _, _⟩) (by rfl) (.tmp 33) (.tmp 35) 22 rfl _ _ rfl rfl HR6.out ?_))
  have hsc := fscan11_calls A6 c6 all11 u6 (byt_of_own HO6.out).1 (own_none HO6.out) (byt_of_own HO6.out).2.2.1 (by rw [all11_len]; omega) (HT.out.on HB6.out)
  rw [scan_all11, all11_len] at hsc
  have HSc := Lib.hid (hsc.mono (fun e w' h => Lib.hid h))
  clear hsc HO6 HR4 HR5 HR6 HB3 HB2 h52 ht5 HScan
  go_wp2_with fail
  refine HSc.out.mono ?_
  intro e w7 hp7
  obtain ⟨A7, c7, rfl, hrd7, hno7, hb7⟩ := hp7.out
  have HB7 := Lib.hid (HB6.out.trans (hb7.mono HB6.out.size))
  have HR7 := Lib.hid hrd7
  have hnx := fnext11_calls A2 c2 pa w7 (HA6.out.below hb7) HN2.out (by rw [hla]; exact hc2) (by rw [hla]; omega) (HT.out.on HB7.out)
  rw [HNx.out.1, HNx.out.2, hla] at hnx
  have HNy := Lib.hid (hnx.mono (fun e w' h => Lib.hid h))
  clear hp7 hrd7 hno7 hb7 hnx HSc HB6 HA6 hc2 HN2 HNx hla hlb
  go_wp2_with fail
  refine HNy.out.mono ?_
  intro e w8 hp8
  obtain ⟨A8, c8, rfl, hown8, hb8⟩ := hp8.out
  have HB8 := Lib.hid (HB7.out.trans (hb8.mono HB7.out.size))
  have HO8 := Lib.hid (byt_of_own hown8).1
  have HR8 := Lib.hid (HR7.out.below hb8)
  clear hp8 hown8 hb8 HNy HB7 HR7
  obtain ⟨w9, hr9', hy9, _, hb9⟩ := make11 20 w8 (by omega)
  have hr9 : (Instr.makeSlice 22 (.int .i64 20) (.int .i64 20)).run Tryd.prog w8 = .ok (.slice (some ⟨w8.heap.size, 0, none⟩) 20 20) w9 := hr9'
  clear hr9'
  have HB9 := Lib.hid (HB8.out.trans (hb9.mono HB8.out.size))
  have HO9 := Lib.hid (HO8.out.below hb9)
  have HR9 := Lib.hid (HR8.out.below hb9)
  have hnx := fnext11_calls (some ⟨w8.heap.size, 0, none⟩) 20 (List.replicate 20 0) w9 hy9 (fun h => by cases h) (by rw [List.length_replicate]; omega) (by rw [List.length_replicate]; omega) (HT.out.on HB9.out)
  rw [(err_noughts 20 (by omega)).1, (err_noughts 20 (by omega)).2, List.length_replicate] at hnx
  have HNy := Lib.hid (hnx.mono (fun e w' h => Lib.hid h))
  clear hy9 hb9 hnx HB8 HO8 HR8
  go_wp2_with fail
  refine HNy.out.mono ?_
  intro e w10 hp10
  obtain ⟨A10, c10, rfl, _, hb10⟩ := hp10.out
  have HB10 := Lib.hid (HB9.out.trans (hb10.mono HB9.out.size))
  have HO10 := Lib.hid (HO9.out.below hb10)
  have HR10 := Lib.hid (HR9.out.below hb10)
  clear hp10 hb10 HNy HB9 HO9 HR9 hr9
  obtain ⟨w11, hr11', _, _, hb11⟩ := make11 1001 w10 (by omega)
  have hr11 : (Instr.makeSlice 22 (.int .i64 1001) (.int .i64 1001)).run Tryd.prog w10 = .ok (.slice (some ⟨w10.heap.size, 0, none⟩) 1001 1001) w11 := hr11'
  clear hr11'
  have HB11 := Lib.hid (HB10.out.trans (hb11.mono HB10.out.size))
  have HO11 := Lib.hid (HO10.out.below hb11)
  have HR11 := Lib.hid (HR10.out.below hb11)
  have hlg := fpack11_long (some ⟨w10.heap.size, 0, none⟩) 1001 (List.replicate 1001 0) w11 (by rw [List.length_replicate]; omega)
  rw [List.length_replicate] at hlg
  have HLg := Lib.hid hlg
  clear hb11 hlg HB10 HO10 HR10
  go_wp2_with fail
  refine HLg.out.mono ?_
  rintro e w12 ⟨rfl, hb12⟩
  have HB12 := Lib.hid (HB11.out.trans (hb12.mono HB11.out.size))
  have ho12 := HO11.out.below hb12
  obtain ⟨g, o, A0, c0, rfl, hcell, hby0, _⟩ := (HR11.out.below hb12).at11 (k := 0) (by decide)
  have hcell0 : w12.cell? ⟨g, o, none⟩ = some (.slice A0 2 c0) := hcell
  have e0 : (convert 22 9 (.slice A0 2 c0)).run Tryd.prog w12 = .ok (.string ⟨#[97, 98]⟩) w12 := conv_strE hby0 c0
  have e1 : (convert 22 9 (.slice A8 ab11.length c8)).run Tryd.prog w12 = .ok (.string ⟨#[97, 98]⟩) w12 := conv_strE ho12 c8
  clear hb12 HLg HB11 HO11 HR11 hr11 ho12 hby0 hcell
  go_wp2_with fail
  go_ret
  exact ⟨rfl, HB12.out⟩
end Go.Proofs.YtjfikdldabmciaaDoor
