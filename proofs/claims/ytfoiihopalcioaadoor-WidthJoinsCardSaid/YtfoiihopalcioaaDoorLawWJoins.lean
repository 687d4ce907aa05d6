/-
  The walk of WidthJoins.
-/
import Derived.Test.YtfoiihopalcioaaDoorAppS
import Derived.Deep.Cut
import Derived.Deep.RegionLaw
namespace Go.Proofs.YtfoiihopalcioaaDoor
open Go Go.RowKit

theorem rclean_rd (a : List UInt8) (ha : a.length ≤ 1099511627776) (W : World) (A : Option Addr) (c : Nat) (hB : Byt W A a) (h1 : a.length ≤ c) (h2 : c ≤ maxLen) :
    Calls Tryd.prog 27 #[.slice A a.length c] W fun e w' => ∃ A' c', e = .returned (.slice A' (cleanL a).length c') ∧ Byt w' A' (cleanL a) ∧ Below W.heap.size W w' := by
  refine (rclean_calls A c a W hB h1 h2 ha).mono ?_
  rintro e w' ⟨v, rfl, hown, hb⟩
  obtain ⟨A, c, rfl⟩ := own_form hown
  exact ⟨A, c, rfl, (byt_of_own hown).1, hb⟩

theorem rd_one (w : World) (s : ByteArray) : RdS (w.alloc (.cells #[.string s] 9)) (some ⟨w.heap.size, 0, none⟩) [s] := fun _ => ⟨w.heap.size, 0, rfl, by simp, fun i hi => by
  obtain rfl : i = 0 := by simpa using hi
  exact (Boxed.new w 9 (.string s)).cell⟩
theorem rd_keep {W w6 : World} {row : Option Nat} {B : Nat} {s : ByteArray} (hg : W.grownBy w6 row) (hp : Boxed W B 9 (.string s)) (hne : some B ≠ row) : RdS w6 (some ⟨B, 0, none⟩) [s] := fun _ => ⟨B, 0, rfl, Nat.lt_of_lt_of_le hp.lt hg.size, fun i hi => by
  obtain rfl : i = 0 := by simpa using hi
  exact (hp.kept hg hne).cell⟩
theorem slice_upto (A : Option Addr) (n c k : Nat) (hk : k ≤ c) (W : World) : (Instr.slice 27 (.slice A n c) none (some (.int .i64 (k : Int))) none).run Tryd.prog W = .ok (.slice A k c) W := by
  have he : Tryd.prog.elem 27 = 9 := by kernel_rfl
  have hu : Tryd.prog.underlying 27 = some (.slice (Tryd.prog.elem 27)) := by rw [he]; exact Tryd.underlying27
  rw [run_slice_h W 27 A n c hu .i64 (k : Int) (by omega) (by omega), he, Tryd.sizeOf9]
  cases A with
  | none => simp [sliced, Result.andThen]
  | some a => cases a; simp [sliced, Result.andThen, Addr.add]
theorem slice_from (A : Option Addr) (n c k : Nat) (hk : k ≤ n) (W : World) : (Instr.slice 27 (.slice A n c) (some (.int .i64 (k : Int))) none none).run Tryd.prog W = .ok (.slice (dropA A c k) (n - k) (c - k)) W := by
  have he : Tryd.prog.elem 27 = 9 := by kernel_rfl
  have hu : Tryd.prog.underlying 27 = some (.slice (Tryd.prog.elem 27)) := by rw [he]; exact Tryd.underlying27
  rw [run_slice_l W 27 A n c hu .i64 (k : Int) (by omega) (by omega), he, Tryd.sizeOf9]
  simp [sliced, dropA, Result.andThen]

set_option maxRecDepth 100000 in
set_option maxHeartbeats 8000000 in
theorem lwjoins_list (a b : List UInt8) (w : World) (hma : a.length ≤ 9223372036854775807) (hmb : b.length ≤ 9223372036854775807) (hsp : Spans w) :
    Calls Tryd.prog 7 #[.string (bs a), .string (bs b)] w fun e w' => e = .returned (.bool true) ∧ Below w.heap.size w w' := by
  have hsz := bs_size a
  have hszb := bs_size b
  by_cases hbig : 500 < a.length
  · have hcon := Lib.hid (walive_calls w hsp)
    clear hsp
    go_enter Tryd.func7, Tryd.ntmps7
    go_wp2_with fail
    refine hcon.out.mono ?_
    rintro e w' ⟨rfl, h⟩
    go_wp2
    go_ret
    exact ⟨rfl, h⟩
  by_cases hbig2 : 500 < b.length
  · have hcon := Lib.hid (walive_calls w hsp)
    clear hsp
    go_enter Tryd.func7, Tryd.ntmps7
    go_wp2_with fail
    refine hcon.out.mono ?_
    rintro e w' ⟨rfl, h⟩
    go_wp2
    go_ret
    exact ⟨rfl, h⟩
  have C1 := Lib.hid (rclean_rd a (by omega))
  have C2 := Lib.hid (rclean_rd b (by omega))
  have V1 := conv_bs a
  have V2 := conv_bs b
  have hla := clean_length a
  have hlb := clean_length b
  have HJ1 : Hid (cleanL b = [] ∨ ofL ((Lib.decodeL (cleanL b)).1 : Int) ≠ 0 → cutL (cleanL a ++ cleanL b) = cutL (cleanL a) ++ cutL (cleanL b)) := Lib.hid (cut_join_wide a (cleanL b))
  have HJ2 := Lib.hid (cut_join_zero a (cleanL b))
  generalize cleanL a = x at *
  generalize cleanL b = y at *
  go_enter Tryd.func7, Tryd.ntmps7
  go_upto_region 3 with fail
  go_cut [5, 6] from 22 (fun s5 s6 wc => s5 = .string (bs x) ∧ s6 = .string (bs y) ∧ Below w.heap.size w wc)
  case first =>
    have hY1 : Byt (Lib.bytesWorld w.drew 5 (bs a)) (some ⟨w.heap.size, 0, none⟩) a := byt_bytes w.drew a
    have hY2 : Byt (Lib.bytesWorld w.drew 5 (bs b)) (some ⟨w.heap.size, 0, none⟩) b := byt_bytes w.drew b
    have Y1 := Lib.hid hY1
    have Y1ab : Hid (Byt (Lib.bytesWorld (Lib.bytesWorld w.drew 5 (bs a)) 5 (bs b)) (some ⟨w.heap.size, 0, none⟩) a) := Lib.hid (hY1.below (below_bytes _ _ _))
    have Y1ba : Hid (Byt (Lib.bytesWorld (Lib.bytesWorld w.drew 5 (bs b)) 5 (bs a)) (some ⟨(Lib.bytesWorld w.drew 5 (bs b)).heap.size, 0, none⟩) a) := Lib.hid (byt_bytes _ a)
    have Y2ab : Hid (Byt (Lib.bytesWorld (Lib.bytesWorld w.drew 5 (bs a)) 5 (bs b)) (some ⟨(Lib.bytesWorld w.drew 5 (bs a)).heap.size, 0, none⟩) b) := Lib.hid (byt_bytes _ b)
    have Y2ba : Hid (Byt (Lib.bytesWorld (Lib.bytesWorld w.drew 5 (bs b)) 5 (bs a)) (some ⟨w.heap.size, 0, none⟩) b) := Lib.hid (hY2.below (below_bytes _ _ _))
    have Ya : Hid (∀ W : World, Byt (Lib.bytesWorld W 5 (bs b)) (some ⟨W.heap.size, 0, none⟩) b) := Lib.hid fun W => byt_bytes W b
    have kd : Below w.heap.size w w.drew := (Below.refl _ _).drew
    have ka : Below w.heap.size w (Lib.bytesWorld w.drew 5 (bs a)) := kd.trans (below_bytes w.drew 5 (bs a))
    have kb : Below w.heap.size w (Lib.bytesWorld w.drew 5 (bs b)) := kd.trans (below_bytes w.drew 5 (bs b))
    have K1 := Lib.hid ka
    have K2 := Lib.hid (ka.trans ((below_bytes _ 5 (bs b)).mono ka.size))
    have K3 := Lib.hid (kb.trans ((below_bytes _ 5 (bs a)).mono kb.size))
    have Hcap := Lib.hid (fun (W : World) (l : List UInt8) (h : l.length ≤ 1000) => grownCap_le_maxLen W l.length 0 5 (by unfold maxLen; omega))
    have hla5 : a.length ≤ 1000 := by omega
    have hlb5 : b.length ≤ 1000 := by omega
    clear hY1 hY2 kd ka kb
    go_region_with (first
      | (go_at_call_of 27 (a.length); refine (C1.out _ _ _ ?_ (grownCap_ge _ _ _ _) (Hcap.out _ a hla5)).mono ?_; (first | exact Y1.out | exact Y1ab.out | exact Y1ba.out); rintro e w1 ⟨A1, c1, rfl, hB1, hb1⟩; have HB1 := Lib.hid hB1; have U1 := conv_str hB1 c1; have U1b := conv_str (hB1.below (below_bytes w1 5 (bs b))) c1; clear hB1)
      | (go_at_call_of 27 (b.length); refine (C2.out _ _ _ ?_ (grownCap_ge _ _ _ _) (Hcap.out _ b hlb5)).mono ?_; (first | exact Ya.out _ | exact Y2ab.out.below hb1 | exact Y2ba.out.below hb1); rintro e w2 ⟨A2, c2, rfl, hB2, hb2⟩; have U2 := conv_str hB2 c2; (first | have U1c := conv_str (HB1.out.below hb2) c1 | have U1c := conv_str ((HB1.out.below (below_bytes _ _ _)).below hb2) c1); clear hB2))
    all_goals
      go_wp2_with fail
      go_meet
      refine ⟨rfl, rfl, ?_⟩
      have k1 : Below w.heap.size w w1 := by first | exact K1.out.trans (hb1.mono K1.out.size) | exact K2.out.trans (hb1.mono K2.out.size) | exact K3.out.trans (hb1.mono K3.out.size)
      have kk := k1.trans ((below_bytes w1 5 (bs b)).mono k1.size)
      first | exact k1.trans (hb2.mono k1.size) | exact kk.trans (hb2.mono kk.size)
  case rest =>
    obtain ⟨rfl, rfl, hb⟩ := hcut
    obtain ⟨wd, rfl⟩ : ∃ wd : World, wd = wc := ⟨_, rfl⟩
    have hs0 := spans_below hsp hb
    have hxy : (x ++ y).length ≤ 4000 := by rw [List.length_append]; omega
    have hadd := add_bs Tryd.prog x y (by omega)
    have H1 := Lib.hid (cut_rdA x (by omega) wd hs0)
    have H2 := Lib.hid (fun W (h : Spans W) => cut_rdA y (by omega) W h)
    have H3 := Lib.hid (fun W (h : Spans W) => cut_rdA (x ++ y) (by omega) W h)
    have hcx := cutL_length x
    have hcy := cutL_length y
    have V3 := conv_bs y
    have hyz := bs_size y
    have H4 : Hid (∀ W : World, Calls Tryd.prog 28 #[.slice (some ⟨W.heap.size, 0, none⟩) y.length (grownCap W y.length 0 5)] (Lib.bytesWorld W 5 (bs y)) fun e w' => e = .returned (.tuple #[.int .i64 ((nextL y).1 : Int), .int .i64 ((nextL y).2 : Int)]) ∧ Below W.heap.size W w') := Lib.hid fun W => by
      have kW := below_bytes W 5 (bs y)
      refine (rnext_calls (some ⟨W.heap.size, 0, none⟩) (grownCap W y.length 0 5) y _ (byt_bytes W y) (by unfold maxLen; omega)).mono ?_
      rintro e w' ⟨rfl, h⟩
      exact ⟨rfl, kW.trans (h.mono kW.size)⟩
    have HL1 : Hid (∀ z ∈ cutL x, z.length ≤ 2000) := Lib.hid fun z hz => by
      have := (cut_mem x z hz).2.2
      omega
    have HL2 : Hid (∀ z ∈ cutL y, z.length ≤ 2000) := Lib.hid fun z hz => by
      have := (cut_mem y z hz).2.2
      omega
    have HX2 : Hid (cutL x ≠ [] → x ≠ []) := Lib.hid fun h e => h (by rw [e]; rfl)
    have HX : Hid (cutL x = [] → x = []) := Lib.hid fun h => Classical.byContradiction fun hn => cutL_ne x hn h
    have HN : Hid (y ≠ [] → 0 < (nextL y).2 ∧ ofL ((nextL y).1 : Int) = ofL ((Lib.decodeL y).1 : Int)) := Lib.hid fun h => by
      have e : nextL y = Lib.decodeL y := by simp [nextL, h]
      have := Lib.decodeL_width y
      rw [e]
      exact ⟨by omega, rfl⟩
    have HN0 : Hid (y = [] → (nextL y).2 = 0) := Lib.hid fun h => by rw [h]; rfl
    have hR := Lib.hid (fun W => rof_calls ((nextL y).1 : Int) W)
    have HJ0 : Hid (cutL x = [] → cutL (x ++ y) = cutL x ++ cutL y) := Lib.hid fun h => by
      rw [HX.out h]; rfl
    have Hb := Lib.hid hb
    have hzw := hb.size
    clear V1 V2 C1 C2 hb hsp
    generalize x ++ y = xy at *
    generalize hcxe : cutL x = cx at *
    have Hcxe := Lib.hid hcxe
    generalize hcye : cutL y = cy at *
    have Hcye := Lib.hid hcye
    generalize cutL xy = cxy at *
    clear hcxe hcye
    generalize ofL ((nextL y).1 : Int) = q at *
    generalize (nextL y).1 = r0 at *
    generalize (nextL y).2 = n0 at *
    go_wp2_with fail
    refine H1.out.mono ?_
    rintro e w1 ⟨A1, c1, rfl, hR1, hA1, hl1, hm1, hb1⟩
    go_wp2_with fail
    refine (H2.out _ (spans_below hs0 hb1)).mono ?_
    rintro e w2 ⟨A2, c2, rfl, hR2, hA2, hl2, hm2, hb2⟩
    have k2 : Below wd.heap.size wd w2 := hb1.trans (hb2.mono hb1.size)
    have R1 := hR1.below hb2
    clear hb1 hR1
    go_wp2_with fail
    refine (H3.out _ (spans_below hs0 k2)).mono ?_
    rintro e w3 ⟨A3, c3, rfl, hR3, hA3, hl3, hm3, hb3⟩
    have k3 : Below wd.heap.size wd w3 := k2.trans (hb3.mono k2.size)
    have R1' := R1.below hb3
    have R2' := hR2.below hb3
    clear hb2 hb3 hR2 R1 k2 hadd
    go_wp2_with fail
    refine (H4.out _).mono ?_
    rintro e w4 ⟨rfl, hb4⟩
    have k4 : Below wd.heap.size wd w4 := k3.trans (hb4.mono k3.size)
    have HR1 := Lib.hid (R1'.below hb4)
    have HR2 := Lib.hid (R2'.below hb4)
    have HR3 := Lib.hid (hR3.below hb4)
    have K4 := Lib.hid k4
    have hs4 := spans_below hs0 k4
    have HA1 := Lib.hid hA1
    have HA2 := Lib.hid hA2
    have hz4 := k4.size
    clear R1' R2' hR3 hb4 k3 k4 H1 H2 H3 H4 V3 hA1 hA2 hA3 hs0
    obtain ⟨i0, hi, hz0, hz1, hz2⟩ := info_parts infoS
    by_cases hZ : cx ≠ [] ∧ y ≠ [] ∧ ofL ((Lib.decodeL y).1 : Int) = 0
    · obtain ⟨hx, hy, ho⟩ := hZ
      obtain ⟨init, lst, c, rest, e1, e2, e3⟩ := HJ2.out (HX2.out hx) hy ho
      obtain ⟨hn, eq⟩ := HN.out hy
      have hq0 : q = 0 := by rw [eq]; exact ho
      have hxl : cx.length = init.length + 1 := by rw [e1]; simp
      have hyl : cy.length = rest.length + 1 := by rw [e2]; simp
      have hzl : cxy.length = init.length + rest.length + 1 := by rw [e3]; simp; omega
      have hxe : ((cx.length : Int) == 0) = false := beq_eq_false_iff_ne.2 (by omega)
      have hne : ((n0 : Int) == 0) = false := beq_eq_false_iff_ne.2 (by omega)
      have hqe : ((q : Int) != 0) = false := by rw [hq0]; rfl
      obtain ⟨g1, o1, rfl, hg1, hc1⟩ := rdS_at HR1.out (by omega)
      obtain ⟨g2, o2, rfl, hg2, hc2⟩ := rdS_at HR2.out (by omega)
      have d1 := hc1 init.length (by omega)
      have d2 := hc2 0 (by omega)
      rw [show cx.getD init.length [] = lst by rw [e1]; simp] at d1
      rw [show cy.getD 0 [] = c by rw [e2]; rfl, Nat.add_zero] at d2
      have T1 := HR1.out.take init.length
      have T2 := HR2.out.drop c2 1 (by rw [List.length_map]; exact hl2)
      rw [show (cx.map bs).take init.length = init.map bs by rw [e1]; simp] at T1
      rw [show (cy.map bs).drop 1 = rest.map bs by rw [e2]; simp] at T2
      have hwx : IntKind.i64.wrap ((cx.length : Int) - 1) = (init.length : Int) := by rw [show (cx.length : Int) - 1 = (init.length : Int) by omega]; exact IntWalk.i64_in _ (by omega)
      have hsl1 : ∀ W : World, (Instr.slice 27 (.slice (some ⟨g1, o1, none⟩) cx.length c1) none (some (.int .i64 (init.length : Int))) none).run Tryd.prog W = .ok (.slice (some ⟨g1, o1, none⟩) init.length c1) W := fun W => slice_upto _ _ _ _ (by omega) W
      have hsl2 : ∀ W : World, (Instr.slice 27 (.slice (some ⟨g2, o2, none⟩) cy.length c2) (some (.int .i64 1)) none none).run Tryd.prog W = .ok (.slice (dropA (some ⟨g2, o2, none⟩) c2 1) rest.length (c2 - 1)) W := fun W => by
        have := slice_from (some ⟨g2, o2, none⟩) cy.length c2 1 (by omega) W
        rw [show cy.length - 1 = rest.length by omega] at this
        exact this
      have hadd2 := add_bs Tryd.prog lst c (by
        have h1 := HL1.out lst (by rw [e1]; simp)
        have h2 := HL2.out c (by rw [e2]; simp)
        omega)
      have hil : init.length ≤ 2000 := by omega
      have hrl : rest.length ≤ 2000 := by omega
      have E3 := Lib.hid e3
      have Hzl := Lib.hid hzl
      have HT1 := Lib.hid T1
      have HT2 := Lib.hid T2
      have hk0 : (0 : Int) ≤ (init.length : Int) := Int.natCast_nonneg _
      have hk1 : (init.length : Int) < (cx.length : Int) := by omega
      have hk2 : (0 : Int) < (cy.length : Int) := by omega
      have hk3 : 0 < cy.length := by omega
      generalize hlc : lst ++ c = lc at *
      clear hlc T1 T2 hc1 hc2 e1 e2 e3 hxl hyl hzl hx hy ho hn eq hq0 HR1 HR2
      go_wp2_with fail
      refine (hR.out _).mono ?_
      rintro e w5 ⟨rfl, rfl⟩
      go_upto_region 9 with fail
      go_cut [12] from 66 (fun s12 wx => wx.ownsRow w4.heap.size 9 1 s12 (0 + init.length + 1) (cellsS ([] ++ init.map bs ++ [bs lc])) ∧ Below w4.heap.size w4 wx)
      case first =>
        have oa := Lib.hid (own_emptyS w4 w4.heap.size (Nat.le_refl _)).drew
        have oab := Lib.hid ((own_emptyS w4 w4.heap.size (Nat.le_refl _)).alloc (.cells #[.string (bs lc)] 9)).drew
        have oba0 := (own_emptyS (w4.alloc (.cells #[.string (bs lc)] 9)) w4.heap.size (by simp)).drew
        simp only [World.size_alloc] at oba0
        have oba := Lib.hid oba0
        have ba : Hid (Below w4.heap.size w4 (w4.alloc (.cells #[] 9)).drew) := Lib.hid ((Below.refl _ _).alloc (Nat.le_refl _) _).drew
        have bab : Hid (Below w4.heap.size w4 ((w4.alloc (.cells #[] 9)).alloc (.cells #[.string (bs lc)] 9)).drew) := Lib.hid (((Below.refl _ _).alloc (Nat.le_refl _) _).alloc (by simp) _).drew
        have bba : Hid (Below w4.heap.size w4 ((w4.alloc (.cells #[.string (bs lc)] 9)).alloc (.cells #[] 9)).drew) := Lib.hid (((Below.refl _ _).alloc (Nat.le_refl _) _).alloc (by simp) _).drew
        have pab : Hid (Boxed ((w4.alloc (.cells #[] 9)).alloc (.cells #[.string (bs lc)] 9)).drew (w4.heap.size + 1) 9 (.string (bs lc))) := Lib.hid (by
          have := Boxed.new (w4.alloc (.cells #[] 9)) 9 (.string (bs lc))
          rw [World.size_alloc] at this
          exact this)
        have pba : Hid (Boxed ((w4.alloc (.cells #[.string (bs lc)] 9)).alloc (.cells #[] 9)).drew w4.heap.size 9 (.string (bs lc))) := Lib.hid ((Boxed.new w4 9 (.string (bs lc))).alloc _)
        have nab : Hid (some (w4.heap.size + 1) ≠ (Value.slice (some ⟨w4.heap.size, 0, none⟩) 0 0).ownBlock) := Lib.hid (by simp [Value.ownBlock])
        have nba : Hid (some w4.heap.size ≠ (Value.slice (some ⟨w4.heap.size + 1, 0, none⟩) 0 0).ownBlock) := Lib.hid (by simp [Value.ownBlock])
        clear oba0
        go_region_law (first
          | (refine step_append_S (o := ⟨some 72, _, _, _, _, _⟩) (by rfl) (.tmp 66) (.tmp 71) 27 rfl _ _ _ _ rfl rfl w4.heap.size i0 Tryd.underlying27 hi hz0 hz1 hz2 [] 0 rfl (init.map bs) (by rw [List.length_map]) (fun h => by cases h) (by simp; omega) ?_ ?_ ?_ ?_; (first | exact oa.out | exact oab.out | exact oba.out); (first | exact HT1.out.below ba.out | exact HT1.out.below bab.out | exact HT1.out.below bba.out); (first | exact ba.out.size | exact bab.out.size | exact bba.out.size); intro v' w6 hown6 hg6; have k6 : Below w4.heap.size w4 w6 := (by first | exact below_own ba.out hg6 oa.out (Nat.le_refl _) ba.out.size | exact below_own bab.out hg6 oab.out (Nat.le_refl _) bab.out.size | exact below_own bba.out hg6 oba.out (Nat.le_refl _) bba.out.size); have s1 := (k6.cell (p := ⟨g1, o1 + init.length, none⟩) hg1).trans d1; have s2 := (k6.cell (p := ⟨g2, o2, none⟩) hg2).trans d2)
          | (refine step_append_S (o := ⟨some 84, _, _, _, _, _⟩) (by rfl) (.tmp 72) (.tmp 83) 27 rfl _ _ _ _ rfl rfl w4.heap.size i0 Tryd.underlying27 hi hz0 hz1 hz2 ([] ++ init.map bs) (0 + init.length) (by simp) [bs lc] rfl (fun h => by cases h) (by simp; omega) ?_ ?_ ?_ ?_; (first | exact hown6.alloc _ | exact hown6); (first | exact rd_one _ _ | exact rd_keep hg6 pab.out nab.out | exact rd_keep hg6 pba.out nba.out); (first | exact k6.size | (have := k6.size; simp; omega)); intro v7 w8 hown8 hg8))
        all_goals
          go_wp2_with fail
          go_meet
          refine ⟨hown8, ?_⟩
          first | exact below_own (k6.alloc k6.size _) hg8 (hown6.alloc _) (Nat.le_refl _) (by have := k6.size; simp; omega) | exact below_own k6 hg8 hown6 (Nat.le_refl _) k6.size
      case rest =>
        obtain ⟨hown9, k9⟩ := hcut
        rw [Nat.zero_add] at hown9
        obtain ⟨A9, c9, rfl⟩ := own_form hown9
        have Hown9 := Lib.hid hown9
        have hz9 := k9.size
        have k9' : Below wd.heap.size wd wc := K4.out.trans (k9.mono hz4)
        clear hown9 hR
        go_wp2_with fail
        refine (walive_calls _ (spans_below hs4 k9)).mono ?_
        rintro e w10 ⟨rfl, hb10⟩
        have hz10 := hb10.size
        have k10 : Below wd.heap.size wd w10 := k9'.trans (hb10.mono k9'.size)
        have ho10 := own_below Hown9.out hb10
        obtain ⟨v11, w11, hrun11, hown11, hg11⟩ := run_append_S (P := Tryd.prog) w10 w4.heap.size 27 27 i0 Tryd.underlying27 hi hz0 hz1 hz2 (.slice A9 (init.length + 1) c9) ([] ++ init.map bs ++ [bs lc]) (init.length + 1) (by simp) ho10 (dropA (some ⟨g2, o2, none⟩) c2 1) rest.length (c2 - 1) (rest.map bs) (by rw [List.length_map]) (fun h => by unfold dropA at h; split at h <;> cases h) ((HT2.out.below k9).below hb10) (by simp; omega) (by omega)
        have k4w : Below w4.heap.size w4 w10 := k9.trans (hb10.mono hz9)
        have k11 : Below w4.heap.size w4 w11 := below_own k4w hg11 ho10 (Nat.le_refl _) k4w.size
        have R3 := HR3.out.below k11
        have e11 : [] ++ init.map bs ++ [bs lc] ++ rest.map bs = cxy.map bs := by rw [E3.out]; simp
        have l11 : init.length + 1 + rest.length = cxy.length := by rw [Hzl.out]; omega
        rw [e11, l11] at hown11
        obtain ⟨A11, c11, rfl⟩ := own_form hown11
        have R11 : RdS w11 A11 (cxy.map bs) := by
          rw [← List.length_map (f := bs)] at hown11
          exact (rdS_of_own hown11).1
        have hl8 : cxy.length ≤ 2000000 := by rw [← l11]; omega
        have Hrun11 := Lib.hid hrun11
        have HS := Lib.hid (sames_rd A3 A11 c3 c11 cxy w11 R3 R11 (by omega))
        have k11' : Below wd.heap.size wd w11 := K4.out.trans (k11.mono hz4)
        have HB8 := Lib.hid (Hb.out.trans (k11'.mono hzw))
        clear hrun11 hown11 hg11 ho10 k4w k11 R3 R11 e11 l11 hb10 k9 k9' k10 k11' Hown9
        go_wp2_with (at_builtin; refine wpList_append_g (o := ⟨some 91, _, _, _, _, _⟩) (by rfl) (.tmp 88) (.tmp 90) 27 rfl _ _ rfl rfl Hrun11.out ?_)
        clear Hrun11
        refine HS.out.mono ?_
        rintro e w12 ⟨rfl, hb12⟩
        go_wp2
        go_ret
        exact ⟨rfl, HB8.out.trans (hb12.mono HB8.out.size)⟩
    · have Hcat : Hid (cxy = cx ++ cy) := Lib.hid (by
        by_cases hx : cx = []
        · exact HJ0.out hx
        · by_cases hy : y = []
          · exact HJ1.out (.inl hy)
          · exact HJ1.out (.inr fun h => hZ ⟨hx, hy, h⟩))
      go_upto_region 7 with fail
      go_cut [55] from 44 (fun s55 wx => s55 = .bool true ∧ wx = w4)
      case first =>
        by_cases hx : cx = []
        · have hxe : ((cx.length : Int) == 0) = true := by rw [hx]; rfl
          clear hx
          go_wp2_with fail
          go_meet
          exact ⟨rfl, rfl⟩
        · have hxl : 0 < cx.length := List.length_pos_iff.2 hx
          have hxe : ((cx.length : Int) == 0) = false := beq_eq_false_iff_ne.2 (by omega)
          by_cases hy : y = []
          · have e := HN0.out hy
            have hne : ((n0 : Int) == 0) = true := by rw [e]; rfl
            clear e hy hx
            go_wp2_with fail
            go_meet
            exact ⟨rfl, rfl⟩
          · obtain ⟨hn, e⟩ := HN.out hy
            have ho : q ≠ 0 := fun h => hZ ⟨hx, hy, by rw [← e]; exact h⟩
            have hoe : ((q : Int) != 0) = true := by simp; exact ho
            have hne : ((n0 : Int) == 0) = false := beq_eq_false_iff_ne.2 (by omega)
            clear e hy hx
            go_wp2_with fail
            refine (hR.out _).mono ?_
            rintro e w5 ⟨rfl, rfl⟩
            go_wp2_with fail
            go_meet
            exact ⟨rfl, rfl⟩
      case rest =>
        obtain ⟨rfl, rfl⟩ := hcut
        clear hR
        go_wp2_with fail
        refine (walive_calls _ hs4).mono ?_
        rintro e w5 ⟨rfl, hb5⟩
        have hz5 := hb5.size
        have k5 : Below wd.heap.size wd w5 := K4.out.trans (hb5.mono hz4)
        have kk : Below w5.heap.size w5 (w5.alloc (.cells #[] 9)) := (Below.refl _ _).alloc (Nat.le_refl _) _
        obtain ⟨v6, w6, hrun6, hown6, hg6⟩ := run_append_S (P := Tryd.prog) (w5.alloc (.cells #[] 9)) w5.heap.size 27 27 i0 Tryd.underlying27 hi hz0 hz1 hz2 (.slice (some ⟨w5.heap.size, 0, none⟩) 0 0) [] 0 rfl (own_emptyS w5 w5.heap.size (Nat.le_refl _)) A1 cx.length c1 (cx.map bs) (by rw [List.length_map]) HA1.out ((HR1.out.below hb5).below kk) (by rw [List.length_map]; simp; omega) (by simp)
        have k56 : Below w5.heap.size w5 w6 := below_own kk hg6 (own_emptyS w5 w5.heap.size (Nat.le_refl _)) (Nat.le_refl _) (by simp)
        obtain ⟨v7, w7, hrun7, hown7, hg7⟩ := run_append_S (P := Tryd.prog) w6 w5.heap.size 27 27 i0 Tryd.underlying27 hi hz0 hz1 hz2 v6 ([] ++ cx.map bs) (0 + cx.length) (by simp) hown6 A2 cy.length c2 (cy.map bs) (by rw [List.length_map]) HA2.out ((HR2.out.below hb5).below k56) (by simp; omega) k56.size
        have k57 : Below w5.heap.size w5 w7 := below_own k56 hg7 hown6 (Nat.le_refl _) k56.size
        have R3 := (HR3.out.below hb5).below k57
        have e7 : [] ++ cx.map bs ++ cy.map bs = cxy.map bs := by rw [Hcat.out]; simp
        have l7 : 0 + cx.length + cy.length = cxy.length := by rw [Hcat.out, List.length_append]; omega
        rw [e7, l7] at hown7
        obtain ⟨A7, c7, rfl⟩ := own_form hown7
        have R7 : RdS w7 A7 (cxy.map bs) := by
          rw [← List.length_map (f := bs)] at hown7
          exact (rdS_of_own hown7).1
        have hl8 : cxy.length ≤ 2000000 := by rw [← l7]; omega
        have Hrun6 := Lib.hid hrun6
        have Hrun7 := Lib.hid hrun7
        have k7 : Below wd.heap.size wd w7 := k5.trans (k57.mono k5.size)
        have HS := Lib.hid (sames_rd A3 A7 c3 c7 cxy w7 R3 R7 (by omega))
        have HB8 := Lib.hid (Hb.out.trans (k7.mono hzw))
        clear hrun6 hrun7 hown6 hg6 hg7 hown7 k56 k57 kk R3 R7 e7 l7 hb5 k5 k7 HA1 HA2
        go_wp2_with (first | (at_builtin; refine wpList_append_g (o := ⟨some 61, _, _, _, _, _⟩) (by rfl) (.tmp 59) (.tmp 60) 27 rfl _ _ rfl rfl Hrun6.out ?_) | (at_builtin; refine wpList_append_g (o := ⟨some 63, _, _, _, _, _⟩) (by rfl) (.tmp 61) (.tmp 62) 27 rfl _ _ rfl rfl Hrun7.out ?_))
        clear Hrun6 Hrun7
        refine HS.out.mono ?_
        rintro e w8 ⟨rfl, hb8⟩
        go_wp2
        go_ret
        exact ⟨rfl, HB8.out.trans (hb8.mono HB8.out.size)⟩
theorem lwjoins_calls (s t : ByteArray) (w : World) (hm : s.size ≤ 9223372036854775807) (hm2 : t.size ≤ 9223372036854775807) (hsp : Spans w) :
    Calls Tryd.prog 7 #[.string s, .string t] w fun e w' => e = .returned (.bool true) ∧ Below w.heap.size w w' :=
  lwjoins_list s.data.toList t.data.toList w (by rw [← Lib.size_eq]; exact hm) (by rw [← Lib.size_eq]; exact hm2) hsp
end Go.Proofs.YtfoiihopalcioaaDoor
