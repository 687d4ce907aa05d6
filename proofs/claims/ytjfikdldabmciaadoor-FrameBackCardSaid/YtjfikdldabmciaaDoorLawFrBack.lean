/-
  The walk of FrameBack (layer 11).
-/
import Derived.Test.YtjfikdldabmciaaDoorFrameC
import Derived.Deep.RegionHeld3
import Derived.RegionTactic
import Derived.BigRegion
namespace Go.Proofs.YtjfikdldabmciaaDoor
open Go Go.RowKit
set_option maxRecDepth 100000

/-- The frame that was packed last. -/
def lastF (l : List (List UInt8)) : Nat → List UInt8
  | 0 => []
  | k + 1 => packF (l.getD k [])
/-- What may stand behind the frames. -/
def tailsF (l : List (List UInt8)) (n u : Nat) : List (List UInt8) := [[], List.replicate n 0, (lastF l l.length).take u]
theorem back_tails (l : List (List UInt8)) (h : ∀ p ∈ l, p.length ≤ 1000) (n u : Nat) (hu : u < (lastF l l.length).length) (j : Nat) (hj : j < 3) : scanF (packsF l ++ (tailsF l n u).getD j []) = (l, (packsF l).length) := by
  have hno : ¬ okF ((tailsF l n u).getD j []) := by
    match j, hj with
    | 0, _ => exact ok_short (by show (0 : Nat) < 6; omega)
    | 1, _ => exact ok_noughts n
    | 2, _ =>
      show ¬ okF ((lastF l l.length).take u)
      cases hl : l.length with
      | zero => rw [hl] at hu; simp [lastF] at hu
      | succ m =>
        rw [hl] at hu
        have hlt : m < l.length := by omega
        have hd : l.getD m [] = l[m] := by simp [List.getD, hlt]
        exact ok_half (l.getD m []) (h _ (by rw [hd]; exact List.getElem_mem hlt)) u hu
  have h1 := scan_packs l ((tailsF l n u).getD j []) h
  rw [scan_no hno] at h1
  rw [h1]
  simp
theorem tails_len (l : List (List UInt8)) (n u : Nat) (hn : n ≤ 100) (hu : u < (lastF l l.length).length) (hl : (lastF l l.length).length ≤ 4006) (j : Nat) (hj : j < 3) : ((tailsF l n u).getD j []).length ≤ 4006 := by
  match j, hj with
  | 0, _ => show (0 : Nat) ≤ 4006; omega
  | 1, _ => show (List.replicate n (0 : UInt8)).length ≤ 4006; rw [List.length_replicate]; omega
  | 2, _ => show ((lastF l l.length).take u).length ≤ 4006; rw [List.length_take]; omega
theorem last_le (l : List (List UInt8)) : (lastF l l.length).length ≤ (packsF l).length := by
  cases hl : l.length with
  | zero => simp [lastF]
  | succ m =>
    have hlt : m < l.length := by omega
    have h := packsF_take hlt
    rw [← hl, List.take_length] at h
    rw [h, List.length_append]
    show (packF (l.getD m [])).length ≤ _
    omega
set_option maxHeartbeats 8000000 in
theorem frback_law (A : Option Addr) (c : Nat) (l : List (List UInt8)) (cut nn : Int) (w : World) (hl : RdBs w A l) (hm : l.length ≤ 9223372036854775807) (_hp : ∀ p ∈ l, p.length ≤ 9223372036854775807)
    (hc0 : -9223372036854775808 ≤ cut) (hc1 : cut ≤ 9223372036854775807) (hn0 : -9223372036854775808 ≤ nn) (hn1 : nn ≤ 9223372036854775807) (ht : LaysR w) :
    Calls Tryd.prog 6 #[.slice A l.length c, .int .i64 cut, .int .i64 nn] w fun e w' => e = .returned (.bool true) ∧ Below w.heap.size w w' := by
  obtain ⟨i0, hi0, hz0, hz1, hz2⟩ := info8_11
  have HL := Lib.hid hl
  have HT := Lib.hid ht
  have HAl : Hid (∀ W, Below w.heap.size w W → Calls Tryd.prog 9 #[] W fun e w' => e = .returned (.bool true) ∧ Below w.heap.size w w') := Lib.hid fun W hb => (falive11_calls W (HT.out.on hb)).mono (by rintro e w' ⟨h1, h2⟩; exact ⟨h1, hb.trans (h2.mono hb.size)⟩)
  have HArg := Lib.hid (And.intro hc0 (And.intro hc1 (And.intro hn0 hn1)))
  clear hl ht hc0 hc1 hn0 hn1
  go_enter Tryd.func6, Tryd.ntmps6
  go_wp2_with fail
  go_loopw [7, 8, 20] (fun v7 v8 v20 wr => ∃ (k : Nat) (A8 : Option Addr) (c8 : Nat), k ≤ l.length ∧ v20 = .int .i64 (k : Int) ∧ v8 = .slice A8 (lastF l k).length c8 ∧ Hid (wr.ownsRow w.heap.size 5 1 v7 (packsF (l.take k)).length (Lib.byteCells (packsF (l.take k)))) ∧ Hid (wr.ownsRow w.heap.size 5 1 (.slice A8 (lastF l k).length c8) (lastF l k).length (Lib.byteCells (lastF l k))) ∧ Hid ((∀ p ∈ l.take k, p.length ≤ 1000) ∧ (packsF (l.take k)).length ≤ 4006) ∧ Hid (Below w.heap.size w wr)) (fun _ _ v20 _ => l.length - (intOf v20).toNat)
  case atStart => exact ⟨0, none, 0, Nat.zero_le _, rfl, rfl, Lib.hid (World.ownsRow_nil _ _ _ _), Lib.hid (World.ownsRow_nil _ _ _ _), Lib.hid ⟨fun p hp => (by cases hp), by simp [packsF]⟩, Lib.hid (Below.refl _ _)⟩
  case round =>
    obtain ⟨k, A8, c8, hk, rfl, rfl, hown, hlast, hsm, hbel⟩ := hrel
    obtain ⟨A7, c7, rfl⟩ := own_form hown.out
    by_cases hlt : k < l.length
    · obtain ⟨g1, o1, Ai, ci, rfl, hcell, hby, hno⟩ := (HL.out.below hbel.out).at11 hlt
      have hkl : (k : Int) < (l.length : Int) := by omega
      have HTk := Lib.hid (packsF_take hlt)
      have HLs : Hid (lastF l (k + 1) = packF (l.getD k [])) := Lib.hid rfl
      have HSm : Hid ((l.getD k []).length ≤ 1000 → ∀ p ∈ l.take (k + 1), p.length ≤ 1000) := Lib.hid (fun h p hp => by
        have hd : l.getD k [] = l[k] := by simp [List.getD, hlt]
        rw [List.take_succ_eq_append_getElem hlt] at hp
        rcases List.mem_append.1 hp with h1 | h1
        · exact hsm.out.1 p h1
        · obtain rfl := List.mem_singleton.1 h1
          rwa [hd] at h)
      by_cases hp1 : 1000 < (l.getD k []).length
      · have HP := Lib.hid (fpack11_long Ai ci (l.getD k []) wr hp1)
        generalize l.getD k [] = p at *
        clear hby hno hown hlast hsm HSm HTk HLs hp1
        go_wp2_with fail
        refine HP.out.mono ?_
        rintro e w1 ⟨rfl, hb1⟩
        have HB1 := Lib.hid (hbel.out.trans (hb1.mono hbel.out.size))
        clear hb1 HP
        go_wp2_with fail
        refine (HAl.out w1 HB1.out).mono ?_
        rintro e w2 ⟨rfl, hb2⟩
        go_wp2_with fail
        go_ret
        exact ⟨rfl, hb2⟩
      · have HP := Lib.hid ((fpack11_calls Ai ci (l.getD k []) wr hby hno (by omega) (HT.out.on hbel.out)).mono (fun e w' h => Lib.hid h))
        have hpl := packF_length (l.getD k [])
        have HS1 := Lib.hid (HSm.out (by omega))
        generalize l.getD k [] = p at *
        have hq : (packsF (l.take k)).length ≤ 4006 := hsm.out.2
        have HQ := Lib.hid hsm.out.1
        have HPl := Lib.hid (And.intro hpl hp1)
        generalize hpk : packF p = pk at *
        clear hby hno hlast hsm HSm hpk
        generalize packsF (l.take k) = ac at *
        go_wp2_with fail
        refine HP.out.mono ?_
        intro e w1 hp2
        obtain ⟨A1, c1, rfl, hown1, hb1⟩ := hp2.out
        have HB1 := Lib.hid (hbel.out.trans (hb1.mono hbel.out.size))
        have HO1 := Lib.hid hown1
        have HOa := Lib.hid (own_below hown.out hb1)
        have HZ := Lib.hid (fun g (h : (Value.slice A7 ac.length c7).ownBlock = some g) => (hown.out.lt g h).2)
        clear hp2 hown1 hb1 HP hown
        by_cases hbig : 3000 < ac.length
        · have d3 : decide (3000 < (ac.length : Int)) = true := decide_eq_true (by omega)
          clear hpl hp1
          go_wp2_with fail
          refine (HAl.out w1 HB1.out).mono ?_
          rintro e w2 ⟨rfl, hb2⟩
          go_wp2_with fail
          go_ret
          exact ⟨rfl, hb2⟩
        · have d3 : decide (3000 < (ac.length : Int)) = false := decide_eq_false (by omega)
          have hsum : ac.length + pk.length ≤ 140737488355328 := by omega
          have HSum := Lib.hid (show ac.length + pk.length ≤ 4006 by omega)
          clear hpl hp1 hbig hq
          go_wp2_with (at_builtin; refine wpList_append_byt _ rfl _ _ 22 rfl w.heap.size i0 Tryd.underlying22 hi0 hz0 hz1 hz2 _ ac rfl HOa.out A1 c1 pk rfl (own_none HO1.out) (byt_of_own HO1.out).1 hsum HB1.out.size ?_)
          intro v2 w2 hown2 hgr2 _
          have HB2 : Hid (Below w.heap.size w w2) := Lib.hid (below_own HB1.out hgr2 HOa.out (Nat.le_refl _) HB1.out.size)
          have HO2 : Hid (w2.ownsRow w.heap.size 5 1 v2 (packsF (l.take (k + 1))).length (Lib.byteCells (packsF (l.take (k + 1))))) := Lib.hid (by rw [HTk.out, List.length_append]; exact hown2)
          have HO3 : Hid (w2.ownsRow w.heap.size 5 1 (.slice A1 pk.length c1) pk.length (Lib.byteCells pk)) := Lib.hid (own_less (own_kept HO1.out hgr2 (fun g h1 h2 => by
            have h3 := (HO1.out.lt g h1).1
            have h4 := HZ.out g h2
            omega)) hbel.out.size)
          clear hown2 hgr2 HO1 HOa HB1 hsum
          go_wp2_with fail
          go_roundw
          case rel => exact ⟨k + 1, A1, c1, by omega, by go_num, by rw [HLs.out], HO2, by rw [HLs.out]; exact HO3, Lib.hid ⟨HS1.out, by rw [HTk.out, List.length_append]; exact HSum.out⟩, HB2⟩
          case measure => simp [intOf]; omega
    · obtain rfl : k = l.length := by omega
      rw [List.take_length] at hown hsm
      obtain ⟨ha0, ha1, ha2, ha3⟩ := HArg.out
      clear hlt hk
      by_cases h1 : nn < 0
      · clear HArg ha0 ha1 ha2 ha3 hown hlast hsm
        go_wp2_with fail
        refine (HAl.out wr hbel.out).mono ?_
        rintro e w2 ⟨rfl, hb2⟩
        go_wp2_with fail
        go_ret
        exact ⟨rfl, hb2⟩
      have d1 : decide (nn < 0) = false := decide_eq_false h1
      by_cases h2 : 100 < nn
      · clear HArg ha0 ha1 ha2 ha3 hown hlast hsm
        have d2 : decide (100 < nn) = true := decide_eq_true h2
        go_wp2_with fail
        refine (HAl.out wr hbel.out).mono ?_
        rintro e w2 ⟨rfl, hb2⟩
        go_wp2_with fail
        go_ret
        exact ⟨rfl, hb2⟩
      have d2 : decide (100 < nn) = false := decide_eq_false h2
      by_cases h3 : cut < 0
      · clear HArg ha0 ha1 ha2 ha3 hown hlast hsm
        have d3 : decide (cut < 0) = true := decide_eq_true h3
        go_wp2_with fail
        refine (HAl.out wr hbel.out).mono ?_
        rintro e w2 ⟨rfl, hb2⟩
        go_wp2_with fail
        go_ret
        exact ⟨rfl, hb2⟩
      have d3 : decide (cut < 0) = false := decide_eq_false h3
      by_cases h4 : ((lastF l l.length).length : Int) ≤ cut
      · clear HArg ha0 ha1 ha2 ha3 hown hlast hsm
        have d4 : decide (((lastF l l.length).length : Int) ≤ cut) = true := decide_eq_true h4
        go_wp2_with fail
        refine (HAl.out wr hbel.out).mono ?_
        rintro e w2 ⟨rfl, hb2⟩
        go_wp2_with fail
        go_ret
        exact ⟨rfl, hb2⟩
      have d4 : decide (((lastF l l.length).length : Int) ≤ cut) = false := decide_eq_false h4
      obtain ⟨n, rfl⟩ : ∃ n : Nat, nn = (n : Int) := ⟨nn.toNat, by omega⟩
      obtain ⟨u, rfl⟩ : ∃ u : Nat, cut = (u : Int) := ⟨cut.toNat, by omega⟩
      have hul : u < (lastF l l.length).length := by omega
      have hll := last_le l
      have hn100 : n ≤ 100 := by omega
      have hc8 := (byt_of_own hlast.out).2.2.1
      have HTl := Lib.hid (back_tails l hsm.out.1 n u hul)
      have HTn := Lib.hid (tails_len l n u hn100 hul (by have := hsm.out.2; omega))
      have hby8 := ((byt_of_own hlast.out).1).take u
      have htk8 : ((lastF l l.length).take u).length = u := by rw [List.length_take]; omega
      have hno8 := own_none hlast.out
      have hu8 : (u : Int) ≤ (c8 : Int) := by omega
      obtain ⟨w5, hr5', hy5, _, hb5⟩ := make11 n wr.drew (by omega)
      have hr5 : (Instr.makeSlice 22 (.int .i64 (n : Int)) (.int .i64 (n : Int))).run Tryd.prog wr.drew = .ok (.slice (some ⟨wr.heap.size, 0, none⟩) n n) w5 := hr5'
      have hb5d : Below wr.heap.size wr w5 := ((Below.refl _ wr).drew).trans hb5
      have HB5 := Lib.hid (hbel.out.trans (hb5d.mono hbel.out.size))
      obtain ⟨w6, hw6⟩ : ∃ w6, w5.alloc (.cells #[.slice none 0 0, .slice (some ⟨wr.heap.size, 0, none⟩) n n, .slice A8 u c8] 22) = w6 := ⟨_, rfl⟩
      have hx6 : BxA w6 w5.heap.size 22 [.slice none 0 0, .slice (some ⟨wr.heap.size, 0, none⟩) n n, .slice A8 u c8] := by rw [← hw6]; exact BxA.new w5 22 _
      have hb6 : Below w5.heap.size w5 w6 := by rw [← hw6]; exact (Below.refl _ w5).alloc (Nat.le_refl _) _
      have HB6 := Lib.hid (HB5.out.trans (hb6.mono HB5.out.size))
      have hb56 := hb5d.trans (hb6.mono hb5d.size)
      have hd : RdBs w6 (some ⟨w5.heap.size, 0, none⟩) (tailsF l n u) := fun _ => ⟨_, _, rfl, hx6.lt, fun i q hi => by
        unfold tailsF at hi
        match i, hi with
        | 0, hi =>
          obtain rfl : [] = q := by simpa using hi
          exact ⟨_, _, hx6.c 0 rfl, Byt.nil_ _ _, fun _ => rfl⟩
        | 1, hi =>
          obtain rfl : List.replicate n 0 = q := by simpa using hi
          exact ⟨_, _, by rw [List.length_replicate]; exact hx6.c 1 rfl, hy5.below hb6, fun h => by cases h⟩
        | 2, hi =>
          obtain rfl : (lastF l l.length).take u = q := by simpa using hi
          exact ⟨_, _, by rw [htk8]; exact hx6.c 2 rfl, hby8.below hb56, hno8⟩
        | i + 3, hi => simp at hi⟩
      have HD := Lib.hid hd
      have HA7 := Lib.hid ((byt_of_own hown.out).1.below hb56)
      have HN7 := Lib.hid (own_none hown.out)
      have HL6 := Lib.hid (HL.out.below HB6.out)
      have Hal4 := Lib.hid hsm.out.2
      have htl3 : (tailsF l n u).length = 3 := rfl
      rw [hw6.symm] at HD
      clear hd hx6 hby8 htk8 hno8 hy5 hb5 hb5d hb6 hb56 hr5' hll hul hn100 hc8 hlast hown HArg ha0 ha1 ha2 ha3 hsm HB5
      generalize tailsF l n u = tl at *
      generalize lastF l l.length = ls at *
      rw [hw6] at HD
      go_wp2_with fail
      go_region
      clear hw6 hr5 hu8 d1 d2 d3 d4
      have HBw := Lib.hid (Below.refl w6.heap.size w6)
      go_wp2_with fail
      go_loopw [66] (fun v66 wq => ∃ j : Nat, j ≤ 3 ∧ v66 = .int .i64 (j : Int) ∧ Hid (Below w6.heap.size w6 wq)) (fun v66 _ => 3 - (intOf v66).toNat)
      case atStart => exact ⟨0, Nat.zero_le _, rfl, HBw⟩
      case round =>
        obtain ⟨j, hj, rfl, hb9⟩ := hrel
        have HBr : Hid (Below w.heap.size w wr) := Lib.hid (HB6.out.trans (hb9.out.mono HB6.out.size))
        by_cases hj3 : j < 3
        · obtain ⟨g9, o9, At, ct, he9, hct, hbt, hnt⟩ := (HD.out.below hb9.out).at11 (k := j) (by omega)
          injection he9 with he9
          injection he9 with hg9 ho9
          subst hg9; subst ho9
          have hjl : (j : Int) < 3 := by omega
          have HSc := Lib.hid (HTl.out j hj3)
          have hln := HTn.out j hj3
          have HBt := Lib.hid hbt
          have HNt := Lib.hid hnt
          have HA9 := Lib.hid (HA7.out.below hb9.out)
          have HL9 := Lib.hid (HL6.out.below hb9.out)
          rw [Nat.zero_add] at hct
          generalize tl.getD j [] = t at *
          have HLn := Lib.hid hln
          obtain ⟨wo, rfl⟩ : ∃ wo, wo = wr := ⟨wr, rfl⟩
          have hb0 : Below wo.heap.size wo (wo.alloc (.cells #[] 5)) := (Below.refl _ wo).alloc (Nat.le_refl _) _
          have hsz0 : (wo.alloc (.cells #[] 5)).heap.size = wo.heap.size + 1 := World.size_alloc _ _
          obtain ⟨v1, w1, r1, o1, q1⟩ := run_append_byt (P := Tryd.prog) (wo.alloc (.cells #[] 5)) wo.heap.size 22 22 i0 Tryd.underlying22 hi0 hz0 hz1 hz2 (.slice (some ⟨wo.heap.size, 0, none⟩) 0 0) [] (own_empty wo wo.heap.size (Nat.le_refl _)) A7 c7 (packsF l) HN7.out (HA9.out.below hb0) (by have := Hal4.out; simp; omega) (by omega)
          rw [List.nil_append] at o1
          have hb1 : Below wo.heap.size wo w1 := below_own hb0 q1 (own_empty wo wo.heap.size (Nat.le_refl _)) (Nat.le_refl _) (by omega)
          obtain ⟨A1, c1, rfl⟩ := own_form o1
          obtain ⟨v2, w2, r2, o2, q2⟩ := run_append_byt (P := Tryd.prog) w1 wo.heap.size 22 22 i0 Tryd.underlying22 hi0 hz0 hz1 hz2 _ _ o1 At ct t HNt.out (HBt.out.below hb1) (by have := Hal4.out; omega) hb1.size
          have hb2 : Below wo.heap.size wo w2 := below_own hb1 q2 o1 (Nat.le_refl _) hb1.size
          obtain ⟨A2, c2, rfl⟩ := own_form o2
          have HB2 := Lib.hid (HBr.out.trans (hb2.mono HBr.out.size))
          have h2 := byt_of_own o2
          have hsc := fscan11_calls A2 c2 (packsF l ++ t) w2 h2.1 (own_none o2) h2.2.2.1 (by have := Hal4.out; rw [List.length_append]; omega) (HT.out.on HB2.out)
          rw [HSc.out, List.length_append] at hsc
          rw [List.length_append] at r2
          have HSn := Lib.hid (hsc.mono (fun e w' h => Lib.hid h))
          have HR1 := Lib.hid r1
          have HR2 := Lib.hid r2
          have HB26 := Lib.hid (hb9.out.trans (hb2.mono hb9.out.size))
          clear hsc h2 r1 r2 o1 o2 q1 q2 hb0 hb1 hb2 hbt hnt hln hsz0 HBt HNt HA9 HSc
          go_wp2_with (first
            | (at_builtin; refine wpList_append_g (o := ⟨some 73, _, _, _, _, _⟩) (by kernel_rfl) (.tmp 71) (.tmp 72) 22 rfl _ _ rfl rfl HR1.out ?_)
            | (at_builtin; refine wpList_append_g (o := ⟨some 75, _, _, _, _, _⟩) (by kernel_rfl) (.tmp 73) (.tmp 74) 22 rfl _ _ rfl rfl HR2.out ?_))
          refine HSn.out.mono ?_
          intro e w3 hp3
          obtain ⟨A3, c3, rfl, hr3, _, hb3⟩ := hp3.out
          have HB3 := Lib.hid (HB2.out.trans (hb3.mono HB2.out.size))
          have HB36 := Lib.hid (HB26.out.trans (hb3.mono HB26.out.size))
          have HR3 := Lib.hid hr3
          have HL3 := Lib.hid (HL6.out.below HB36.out)
          clear hp3 hr3 hb3 HSn HB2 HB26 HR1 HR2 HL9 HLn
          go_wp2_with fail
          go_loopw [17, 92] (fun v17 v92 wq => ∃ i : Nat, i ≤ l.length ∧ v92 = .int .i64 (i : Int) ∧ Hid (Below w3.heap.size w3 wq)) (fun _ v92 _ => l.length - (intOf v92).toNat)
          case atStart => exact ⟨0, Nat.zero_le _, rfl, Lib.hid (Below.refl _ _)⟩
          case round =>
            obtain ⟨i, hi, rfl, hbi⟩ := hrel
            by_cases hil : i < l.length
            · obtain ⟨gm, om, Am, cm, rfl, hcm, hbm, _⟩ := (HR3.out.below hbi.out).at11 hil
              obtain ⟨gl, ol, Al, cl, rfl, hcl, hbl, _⟩ := (HL3.out.below hbi.out).at11 hil
              have hili : (i : Int) < (l.length : Int) := by omega
              generalize l.getD i [] = p at *
              have heq := beq_calls Am Al cm cl p p wr.drew hbm.drew hbl.drew
              rw [decide_eq_true rfl] at heq
              have HEq := Lib.hid heq
              clear heq hbm hbl
              go_wp2_with fail
              have hcmd : wr.drew.cell? ⟨gm, om + i, none⟩ = some (.slice Am p.length cm) := hcm
              have hcld : wr.drew.cell? ⟨gl, ol + i, none⟩ = some (.slice Al p.length cl) := hcl
              refine wp_region_noPanic ?_
              refine wp_region_held_drew (S := (fun y => y.cell? ⟨gm, om + i, none⟩ = some (.slice Am p.length cm) ∧ y.cell? ⟨gl, ol + i, none⟩ = some (.slice Al p.length cl))) (by kernel_rfl) ⟨hcm, hcl⟩ (fun hHeld => ?_)
              refine wpAnyH_take (i := 0) (oi := ⟨some 95, _, _, _, _, _⟩) (v := ?_) rfl (by kernel_rfl) (by kernel_rfl) (by kernel_rfl) (fun _ _ _ h => h) (Or.inl ⟨by kernel_rfl, ?hy0⟩) (by assumption) ?_
              case hy0 => (intro w' hSw; (try dsimp only at hSw); go_simp; try with_reducible rfl)
              simp only [Act.put, List.setIfInBounds_toArray, List.set_cons_zero, List.set_cons_succ]
              refine wpAnyH_take (i := 1) (oi := ⟨some 96, _, _, _, _, _⟩) (v := ?_) rfl (by kernel_rfl) (by kernel_rfl) (by kernel_rfl) (fun _ _ _ h => h) (Or.inl ⟨by kernel_rfl, ?hy1⟩) (by assumption) ?_
              case hy1 => (intro w' hSw; (try dsimp only at hSw); go_simp; try with_reducible rfl)
              simp only [Act.put, List.setIfInBounds_toArray, List.set_cons_zero, List.set_cons_succ]
              refine wpAnyH_take (i := 2) (oi := ⟨some 97, _, _, _, _, _⟩) (v := ?_) rfl (by kernel_rfl) (by kernel_rfl) (by kernel_rfl) (fun _ _ _ h => h) (Or.inl ⟨by kernel_rfl, ?hy2⟩) (by assumption) ?_
              case hy2 => (intro w' hSw; (try dsimp only at hSw); go_simp; try with_reducible rfl)
              simp only [Act.put, List.setIfInBounds_toArray, List.set_cons_zero, List.set_cons_succ]
              refine wpAnyH_take (i := 3) (oi := ⟨some 98, _, _, _, _, _⟩) (v := ?_) rfl (by kernel_rfl) (by kernel_rfl) (by kernel_rfl) (fun _ _ _ h => h) (Or.inl ⟨by kernel_rfl, ?hy3⟩) (by assumption) ?_
              case hy3 => (intro w' hSw; (try dsimp only at hSw); go_simp; try with_reducible rfl)
              simp only [Act.put, List.setIfInBounds_toArray, List.set_cons_zero, List.set_cons_succ]
              refine wpAnyH_take (i := 4) (oi := ⟨some 99, _, _, _, _, _⟩) (v := ?_) rfl (by kernel_rfl) (by kernel_rfl) (by kernel_rfl) (fun _ _ _ h => h) (Or.inl ⟨by kernel_rfl, ?hy4⟩) (by assumption) ?_
              case hy4 => (intro w' hSw; (try dsimp only at hSw); go_simp; try with_reducible rfl)
              simp only [Act.put, List.setIfInBounds_toArray, List.set_cons_zero, List.set_cons_succ]
              refine wpAnyH_take (i := 5) (oi := ⟨some 100, _, _, _, _, _⟩) (v := ?_) rfl (by kernel_rfl) (by kernel_rfl) (by kernel_rfl) (fun _ _ _ h => h) (Or.inl ⟨by kernel_rfl, ?hy5⟩) (by assumption) ?_
              case hy5 => (intro w' hSw; (try dsimp only at hSw); go_simp; try with_reducible rfl)
              simp only [Act.put, List.setIfInBounds_toArray, List.set_cons_zero, List.set_cons_succ]
              refine wpAnyH_take (i := 6) (oi := ⟨some 101, _, _, _, _, _⟩) (v := ?_) rfl (by kernel_rfl) (by kernel_rfl) (by kernel_rfl) (fun _ _ _ h => h) (Or.inl ⟨by kernel_rfl, ?hy6⟩) (by assumption) ?_
              case hy6 => (intro w' hSw; (try dsimp only at hSw); go_simp; try with_reducible rfl)
              simp only [Act.put, List.setIfInBounds_toArray, List.set_cons_zero, List.set_cons_succ]
              refine wpAnyH_take (i := 7) (oi := ⟨some 102, _, _, _, _, _⟩) (v := ?_) rfl (by kernel_rfl) (by kernel_rfl) (by kernel_rfl) (fun _ _ _ h => h) (Or.inl ⟨by kernel_rfl, ?hy7⟩) (by assumption) ?_
              case hy7 => (intro w' hSw; (try dsimp only at hSw); go_simp; try with_reducible rfl)
              simp only [Act.put, List.setIfInBounds_toArray, List.set_cons_zero, List.set_cons_succ]
              refine wpAnyH_ready (rs := [8]) (by kernel_rfl) (by simp) ?_
              refine AllReadyH.cons (o := ⟨some 103, _, _, _, _, _⟩) rfl (fun K hK => ?_) AllReadyH.nil
              (rw [if_pos (by kernel_rfl)])
              go_simp
              refine HEq.out.mono ?_; rintro e y1 ⟨rfl, hb⟩; have HY1 := Lib.hid hb; have hy1 := (hb.cell (World.block_lt_of_cell? _ _ hcmd)).trans hcmd; have hy2 := (hb.cell (World.block_lt_of_cell? _ _ hcld)).trans hcld; clear hb
              refine hK.out _ _ ⟨hy1, hy2⟩ (fun hHeld => ?_)
              clear hK K
              refine wpAnyH_take (i := 9) (oi := ⟨some 104, _, _, _, _, _⟩) (v := ?_) rfl (by kernel_rfl) (by kernel_rfl) (by kernel_rfl) (fun _ _ _ h => h) (Or.inl ⟨by kernel_rfl, ?hy9⟩) (by assumption) ?_
              case hy9 => (intro w' hSw; (try dsimp only at hSw); go_simp; try with_reducible rfl)
              simp only [Act.put, List.setIfInBounds_toArray, List.set_cons_zero, List.set_cons_succ]
              refine wpAnyH_done (by kernel_rfl) (NoPanic.normal ?_) _
              clear HEq
              have HBn : Hid (Below w3.heap.size w3 y1) := Lib.hid (hbi.out.trans ((((Below.refl wr.heap.size wr).drew).trans HY1.out).mono hbi.out.size))
              go_wp2_with fail
              go_roundw
              case rel => exact ⟨i + 1, by omega, by go_num, HBn⟩
              case measure => simp [intOf]; omega
            · obtain rfl : i = l.length := by omega
              have HBn : Hid (Below w6.heap.size w6 wr) := Lib.hid (HB36.out.trans (hbi.out.mono HB36.out.size))
              go_wp2_with fail
              go_roundw
              case rel => exact ⟨j + 1, by omega, by go_num, HBn⟩
              case measure => simp [intOf]; omega
        · obtain rfl : j = 3 := by omega
          go_wp2_with fail
          refine (HAl.out wr HBr.out).mono ?_
          rintro e w2 ⟨rfl, hb2⟩
          go_wp2_with fail
          go_ret
          exact ⟨rfl, hb2⟩
end Go.Proofs.YtjfikdldabmciaaDoor
