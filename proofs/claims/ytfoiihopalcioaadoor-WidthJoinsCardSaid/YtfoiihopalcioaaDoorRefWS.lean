/-
  The document's own Wide, Show and Sum; 'same' of the statements on width.
-/
import Derived.Test.YtfoiihopalcioaaDoorRefBnd
import Derived.Test.YtfoiihopalcioaaDoorRefClean
namespace Go.Proofs.YtfoiihopalcioaaDoor
open Go Go.RowKit

theorem wide_two (l : List UInt8) (hl : l ≠ []) (h : ofL ((Lib.decodeL l).1 : Int) = 2) : wideL l = 2 := by
  unfold wideL; rw [if_neg hl, h]; rfl
theorem wide_one (l : List UInt8) (hl : l ≠ []) (h : ofL ((Lib.decodeL l).1 : Int) ≠ 2) : wideL l = 1 := by
  have := ofL_le ((Lib.decodeL l).1 : Int)
  unfold wideL; rw [if_neg hl]; omega
theorem bs_some (l : List UInt8) (hl : l ≠ []) : l.isEmpty = false := by
  cases l with
  | nil => exact absurd rfl hl
  | cons _ _ => rfl
theorem wrong_bytes : bytesL 65533 = [239, 191, 189] := by decide +kernel

set_option maxHeartbeats 2000000 in
theorem rwide_calls (l : List UInt8) (w : World) (hm : l.length ≤ 1099511627776) :
    Calls Tryd.prog 22 #[.string (bs l)] w fun e w' => e = .returned (.int .i64 (wideL l : Int)) ∧ Below w.heap.size w w' := by
  by_cases hl : l = []
  · subst hl
    go_enter Tryd.func22, Tryd.ntmps22
    go_wp2
    go_ret
    exact ⟨rfl, Below.refl _ _⟩
  · have hnx : nextL l = Lib.decodeL l := by simp [nextL, hl]
    have hs6 := Lib.run_convert_string_bytes (P := Tryd.prog) w 9 38 5 (bs l) Tryd.underlying9 Tryd.underlying38 Tryd.underlying5
    have kw := below_bytes w 5 (bs l)
    have hcon := rnext_calls (some ⟨w.heap.size, 0, none⟩) (grownCap w l.length 0 5) l _ (byt_bytes w l) (by unfold maxLen; omega)
    unfold ToldNext at hcon
    rw [hnx] at hcon
    have Hcon := Lib.hid hcon
    have Hof := Lib.hid (fun W => rof_calls ((Lib.decodeL l).1 : Int) W)
    have H2 := Lib.hid (wide_two l hl)
    have H1 := Lib.hid (wide_one l hl)
    have hse := bs_some l hl
    clear hcon hnx hl
    generalize ofL ((Lib.decodeL l).1 : Int) = y at *
    generalize wideL l = x at *
    go_enter Tryd.func22, Tryd.ntmps22
    go_wp2_with fail
    refine Hcon.out.mono ?_
    rintro e w1 ⟨rfl, hb1⟩
    have k1 : Below w.heap.size w w1 := kw.trans (hb1.mono kw.size)
    clear hb1 Hcon hs6
    go_wp2_with fail
    refine (Hof.out _).mono ?_
    rintro e w2 ⟨rfl, rfl⟩
    by_cases hy : y = 2
    · subst hy
      go_wp2
      go_ret
      exact ⟨by rw [H2.out (by simp)]; rfl, k1⟩
    · have hye : ((y : Int) == 2) = false := beq_eq_false_iff_ne.2 (by omega)
      go_wp2
      go_ret
      exact ⟨by rw [H1.out hy]; rfl, k1⟩

set_option maxHeartbeats 2000000 in
theorem rshow_calls (l : List UInt8) (w : World) (hm : l.length ≤ 1099511627776) :
    Calls Tryd.prog 23 #[.string (bs l)] w fun e w' => e = .returned (.string (bs (showL l))) ∧ Below w.heap.size w w' := by
  by_cases hl : l = []
  · subst hl
    go_enter Tryd.func23, Tryd.ntmps23
    go_wp2
    go_ret
    exact ⟨rfl, Below.refl _ _⟩
  · have hnx : nextL l = Lib.decodeL l := by simp [nextL, hl]
    have hs6 := fun W : World => Lib.run_convert_string_bytes (P := Tryd.prog) W 9 38 5 (bs l) Tryd.underlying9 Tryd.underlying38 Tryd.underlying5
    have kw := below_bytes w 5 (bs l)
    have hcon := rnext_calls (some ⟨w.heap.size, 0, none⟩) (grownCap w l.length 0 5) l _ (byt_bytes w l) (by unfold maxLen; omega)
    unfold ToldNext at hcon
    rw [hnx] at hcon
    have hcl : Hid (∀ W : World, Calls Tryd.prog 27 #[.slice (some ⟨W.heap.size, 0, none⟩) l.length (grownCap W l.length 0 5)] (Lib.bytesWorld W 5 (bs l)) fun e w' => ∃ v, e = .returned v ∧ w'.ownsRow (Lib.bytesWorld W 5 (bs l)).heap.size 5 1 v (cleanL l).length (Lib.byteCells (cleanL l)) ∧ Below W.heap.size W w') := Lib.hid fun W => by
      have kW := below_bytes W 5 (bs l)
      exact (rclean_calls _ (grownCap W l.length 0 5) l _ (byt_bytes W l) (grownCap_ge W l.length 0 5) (grownCap_le_maxLen W l.length 0 5 (by unfold maxLen; omega)) hm).mono (fun e w' ⟨v, h1, h2, h3⟩ => ⟨v, h1, h2, kW.trans (h3.mono kW.size)⟩)
    have hwd : showL l = if ofL ((Lib.decodeL l).1 : Int) = 0 ∨ ctlL ((Lib.decodeL l).1 : Int) = true then [239, 191, 189] else cleanL l := by unfold showL; rw [if_neg hl]
    have HA := Lib.hid (fun h : ofL ((Lib.decodeL l).1 : Int) = 0 ∨ ctlL ((Lib.decodeL l).1 : Int) = true => show showL l = [239, 191, 189] by rw [hwd, if_pos h])
    have HB := Lib.hid (fun h : ¬ (ofL ((Lib.decodeL l).1 : Int) = 0 ∨ ctlL ((Lib.decodeL l).1 : Int) = true) => show showL l = cleanL l by rw [hwd, if_neg h])
    have Hcon := Lib.hid hcon
    have Hof := Lib.hid (fun W => rof_calls ((Lib.decodeL l).1 : Int) W)
    have Hct := Lib.hid (fun W => rctl_calls ((Lib.decodeL l).1 : Int) W)
    have hse := bs_some l hl
    have hby : Hid (∀ W, Calls Tryd.prog 32 #[.int .i64 65533] W fun e w' => Told W w' e [239, 191, 189]) := Lib.hid fun W => by
      have := bytes_calls 65533 W (by omega) (by omega)
      rw [wrong_bytes] at this
      exact this
    clear hcon hnx hl hwd
    generalize ofL ((Lib.decodeL l).1 : Int) = y at *
    generalize ctlL ((Lib.decodeL l).1 : Int) = t at *
    generalize showL l = x at *
    generalize cleanL l = cl at *
    go_enter Tryd.func23, Tryd.ntmps23
    go_wp2_with fail
    refine Hcon.out.mono ?_
    rintro e w1 ⟨rfl, hb1⟩
    have k1 : Below w.heap.size w w1 := kw.trans (hb1.mono kw.size)
    clear hb1 Hcon
    go_wp2_with fail
    refine (Hof.out _).mono ?_
    rintro e w2 ⟨rfl, rfl⟩
    by_cases hy : y = 0
    · subst hy
      go_wp2_with fail
      refine (hby.out _).mono ?_
      rintro e w3 ⟨A3, d3, rfl, hB3, _, _, _, hb3⟩
      have hconv := hB3.convert (P := Tryd.prog) d3 38 5 9 Tryd.underlying38 Tryd.underlying5 Tryd.underlying9 3 rfl
      have k3 : Below w.heap.size w w3 := k1.trans (hb3.mono k1.size)
      clear hB3 hb3
      go_wp2
      go_ret
      exact ⟨by rw [HA.out (by simp)]; rfl, k3⟩
    · have hye : ((y : Int) == 0) = false := beq_eq_false_iff_ne.2 (by omega)
      cases t with
      | true =>
        go_wp2_with fail
        refine (Hct.out _).mono ?_
        rintro e w3 ⟨rfl, rfl⟩
        go_wp2_with fail
        refine (hby.out _).mono ?_
        rintro e w3 ⟨A3, d3, rfl, hB3, _, _, _, hb3⟩
        have hconv := hB3.convert (P := Tryd.prog) d3 38 5 9 Tryd.underlying38 Tryd.underlying5 Tryd.underlying9 3 rfl
        have k3 : Below w.heap.size w w3 := k1.trans (hb3.mono k1.size)
        clear hB3 hb3
        go_wp2
        go_ret
        exact ⟨by rw [HA.out (by simp)]; rfl, k3⟩
      | false =>
        go_wp2_with fail
        refine (Hct.out _).mono ?_
        rintro e w3 ⟨rfl, rfl⟩
        go_wp2_with fail
        refine (hcl.out _).mono ?_
        rintro e w3 ⟨v3, rfl, hown3, hb3⟩
        obtain ⟨A3, c3, rfl⟩ := own_form hown3
        obtain ⟨hB3, _, _, _⟩ := byt_of_own hown3
        have hconv := hB3.convert (P := Tryd.prog) c3 38 5 9 Tryd.underlying38 Tryd.underlying5 Tryd.underlying9 cl.length rfl
        have k3 : Below w.heap.size w w3 := k1.trans (hb3.mono k1.size)
        clear hB3 hb3 hown3
        go_wp2
        go_ret
        exact ⟨by rw [HB.out (by simp [hy])]; rfl, k3⟩

theorem wides_take (cs : List (List UInt8)) (k : Nat) (h : k < cs.length) : wides (cs.take (k + 1)) = wides (cs.take k) + wideL (cs.getD k []) := by
  have e : cs.take (k + 1) = cs.take k ++ [cs.getD k []] := by
    rw [List.take_succ_eq_append_getElem h]; simp [List.getD, h]
  rw [e, wides_snoc]
theorem cut_getD (l : List UInt8) (k : Nat) : ((cutL l).getD k []).length ≤ l.length := by
  by_cases hk : k < (cutL l).length
  · have e : (cutL l).getD k [] = (cutL l)[k] := by simp [List.getD, hk]
    rw [e]; exact (cut_mem l _ (List.getElem_mem hk)).2.2
  · simp [List.getD, hk]

set_option maxHeartbeats 2000000 in
theorem rsum_calls (l0 : List UInt8) (w : World) (hl0 : l0.length ≤ 1099511627776) :
    Calls Tryd.prog 25 #[.string (bs l0)] w fun e w' => e = .returned (.int .i64 (sumL l0 : Int)) ∧ Below w.heap.size w w' := by
  have HC := Lib.hid (rcut_calls l0 w hl0)
  have hcl := cutL_length l0
  have hgl := Lib.hid (cut_getD l0)
  have hbl : Hid (sumL l0 = wides (cutL l0)) := Lib.hid rfl
  generalize cutL l0 = cs at *
  generalize sumL l0 = sm at *
  go_enter Tryd.func25, Tryd.ntmps25
  go_wp2_with fail
  refine HC.out.mono ?_
  rintro e w1 ⟨v1, rfl, hown1, hb1⟩
  obtain ⟨A1, c1, rfl⟩ := own_form hown1
  have Hrd : Hid (0 < cs.length → ∃ g, A1 = some ⟨g, 0, none⟩ ∧ g < w1.heap.size ∧ ∀ i, i < cs.length → w1.cell? ⟨g, i, none⟩ = some (.string (bs (cs.getD i [])))) := Lib.hid fun hn => by
    obtain ⟨g, e, h1, h2, h3⟩ := own_readS hown1 hn
    exact ⟨g, e, h2, fun i hi => by rw [h3 i hi, getD_bs]⟩
  have Hb := Lib.hid hb1
  have hz1 := hb1.size
  clear hown1 hb1 HC
  go_wp2_with fail
  go_loopw [3, 5] (fun v3 v5 wr => ∃ k : Nat, k ≤ cs.length ∧ v5 = .int .i64 (k : Int) ∧ v3 = .int .i64 (wides (cs.take k) : Int) ∧ Below w1.heap.size w1 wr) (fun _ v5 _ => cs.length - (intOf v5).toNat)
  case atStart => exact ⟨0, by omega, rfl, rfl, Below.refl _ _⟩
  case round =>
    obtain ⟨k, hk, rfl, rfl, hbel⟩ := hrel
    by_cases hlt : k < cs.length
    · obtain ⟨g, rfl, hg2, hc⟩ := Hrd.out (by omega)
      have ck : wr.cell? ⟨g, k, none⟩ = some (.string (bs (cs.getD k []))) := by rw [hbel.cell (p := ⟨g, k, none⟩) hg2]; exact hc k hlt
      have hwt := wides_take cs k hlt
      have hw1 := wides_le (cs.take k)
      rw [List.length_take] at hw1
      have hw2 := wideL_le (cs.getD k [])
      have Hwt := Lib.hid hwt
      have hgk := hgl.out k
      have Hcon := Lib.hid (fun W => rwide_calls (cs.getD k []) W (by omega))
      clear hc hwt
      generalize wideL (cs.getD k []) = y at *
      generalize wides (cs.take k) = z at *
      generalize cs.getD k [] = cK at *
      have hwr : IntKind.i64.wrap ((z : Int) + (y : Int)) = (z : Int) + (y : Int) := IntWalk.i64_in _ (by omega)
      go_wp2_with fail
      refine (Hcon.out _).mono ?_
      rintro e w2 ⟨rfl, hb2⟩
      have k2 : Below w1.heap.size w1 w2 := hbel.trans (hb2.mono hbel.size)
      clear hb2
      go_wp2
      go_roundw
      case rel => exact ⟨k + 1, by omega, by go_num, by rw [Hwt.out]; simp, k2⟩
      case measure => simp [intOf]; omega
    · go_wp2
      go_ret
      obtain rfl : k = cs.length := by omega
      rw [List.take_length]
      exact ⟨by rw [hbl.out]; rfl, Hb.out.trans (hbel.mono hz1)⟩

set_option maxHeartbeats 2000000 in
theorem sames_calls (A B : Option Addr) (c d : Nat) (ls : List ByteArray) (w : World) (hA : RdS w A ls) (hB : RdS w B ls) (hm : ls.length ≤ 1099511627776) :
    Calls Tryd.prog 18 #[.slice A ls.length c, .slice B ls.length d] w fun e w' => e = .returned (.bool true) ∧ Below w.heap.size w w' := by
  have HA := Lib.hid hA
  have HB := Lib.hid hB
  clear hA hB
  have hne : ((ls.length : Int) != (ls.length : Int)) = false := by simp
  go_enter Tryd.func18, Tryd.ntmps18
  go_wp2_with fail
  go_loopw [13] (fun i wr => ∃ k n : Nat, k ≤ ls.length ∧ i = .int .i64 (k : Int) ∧ wr = w.drewN n) (fun i _ => ls.length - (intOf i).toNat)
  case atStart => exact ⟨0, 0, by omega, rfl, rfl⟩
  case round =>
    obtain ⟨k, n, hk, rfl, rfl⟩ := hrel
    by_cases hlt : k < ls.length
    · obtain ⟨g, o, rfl, _, hc⟩ := HA.out (by omega)
      obtain ⟨g2, o2, rfl, _, hc2⟩ := HB.out (by omega)
      have ck := hc k hlt
      have ck2 := hc2 k hlt
      clear hc hc2
      generalize ls.getD k ⟨#[]⟩ = y at *
      go_wp2_with fail
      go_quiet (fail)
      go_wp2
      go_roundw
      case rel => exact ⟨k + 1, _, by omega, by go_num, rfl⟩
      case measure => simp [intOf]; omega
    · go_wp2
      go_ret
      exact ⟨rfl, bel_drewN (Below.refl _ _) _⟩
end Go.Proofs.YtfoiihopalcioaaDoor
