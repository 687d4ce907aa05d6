/-
  LinePops (layer 7).
-/
import Derived.Test.YtoaponaljkhlfaaDoorPk7
import Derived.Test.YtoaponaljkhlfaaDoorPk35
import Derived.Deep.RegionHeld3
namespace Go.Proofs.YtoaponaljkhlfaaDoor
open Go Go.RowKit
set_option maxRecDepth 100000

def totS (zs : List ByteArray) (k : Nat) : Nat := ((zs.take k).map ByteArray.size).sum
theorem totS_succ (zs : List ByteArray) (k : Nat) (z : ByteArray) (h : zs[k]? = some z) : totS zs (k + 1) = totS zs k + z.size := by
  unfold totS
  rw [List.take_add_one, h]
  simp
theorem totS_le (zs : List ByteArray) (B : Nat) (h : ∀ s ∈ zs, s.size ≤ B) : ∀ k, totS zs k ≤ k * B
  | 0 => Nat.zero_le _
  | k + 1 => by
    cases hz : zs[k]? with
    | none =>
      have h1 : zs.take (k + 1) = zs.take k := by rw [List.take_add_one, hz]; simp
      have h2 := totS_le zs B h k
      unfold totS at h2 ⊢
      rw [h1, Nat.succ_mul]
      omega
    | some z =>
      rw [totS_succ zs k z hz, Nat.succ_mul]
      have h1 := totS_le zs B h k
      have h2 := h z (List.mem_of_getElem? hz)
      omega
theorem sum_mem : ∀ (zs : List ByteArray), ∀ s ∈ zs, s.size ≤ (zs.map ByteArray.size).sum
  | [], _, h => absurd h List.not_mem_nil
  | x :: t, s, h => by
    rw [List.map_cons, List.sum_cons]
    rcases List.mem_cons.1 h with e | e
    · rw [e]; omega
    · have := sum_mem t s e; omega
theorem totS_mem (zs : List ByteArray) : ∀ s ∈ zs, s.size ≤ totS zs zs.length := by
  intro s hs
  unfold totS
  rw [List.take_length]
  exact sum_mem zs s hs
/-- A right line, and not an empty one. -/
def GoodZ (z : ByteArray) : Prop := mS (bl z) = bl z ∧ bl z ≠ []

set_option maxHeartbeats 8000000 in
theorem lpops_calls (A : Option Addr) (c : Nat) (zs : List ByteArray) (w : World) (hV : RdV Value.string w A zs) (hsz : ∀ s ∈ zs, s.size ≤ 1048576) (hl : zs.length ≤ 1048576) (hsp : Spans w) :
    Calls Tryd.prog 4 #[.slice A zs.length c] w fun e w' => e = .returned (.bool true) ∧ Below w.heap.size w w' := by
  have HS := Lib.hid hsp
  have HV := Lib.hid hV
  have HZ := Lib.hid hsz
  have HTl := Lib.hid (totS_le zs 1048576 hsz)
  clear hsp hV hsz
  go_enter Tryd.func4, Tryd.ntmps4
  go_wp2_with fail
  go_loopw [3, 12] (fun v3 v12 wr => ∃ k : Nat, k ≤ zs.length ∧ v12 = .int .i64 (k : Int) ∧ v3 = .int .i64 (totS zs k : Int) ∧ Hid (Below w.heap.size w wr) ∧ Hid (∀ (i : Nat) (z : ByteArray), i < k → zs[i]? = some z → GoodZ z)) (fun _ v12 _ => zs.length - (intOf v12).toNat)
  case atStart => exact ⟨0, Nat.zero_le _, rfl, rfl, Lib.hid (Below.refl _ w), Lib.hid (fun i z hi _ => absurd hi (Nat.not_lt_zero i))⟩
  case round =>
    obtain ⟨k, hk, rfl, rfl, HB, HG⟩ := hrel
    by_cases hlt : k < zs.length
    · have hkl : (k : Int) < (zs.length : Int) := by omega
      obtain ⟨z, hz⟩ : ∃ z, zs[k]? = some z := ⟨_, List.getElem?_eq_getElem hlt⟩
      obtain ⟨g, o, rfl, hg, hc⟩ := (HV.out.below HB.out) (Nat.lt_of_le_of_lt (Nat.zero_le k) hlt)
      have c0 := hc k z hz
      have hzs := HZ.out z (List.mem_of_getElem? hz)
      have htl := HTl.out k
      have hts := totS_succ zs k z hz
      have hw1 : IntKind.i64.wrap ((totS zs k : Int) + (z.size : Int)) = (totS zs (k + 1) : Int) := by
        rw [IntWalk.i64_in _ (by have : k * 1048576 ≤ 1048576 * 1048576 := Nat.mul_le_mul_right _ (by omega); omega), hts]
        omega
      have HM : Hid (∀ W, Spans W → Calls Tryd.prog 6 #[.string z, .int .i64 0] W fun e w' => e = .returned (.agg #[.string (bs (mS (bl z))), .int .i64 (mA (bl z) 0 : Int)]) ∧ Below W.heap.size W w') := Lib.hid (fun W hS => by
        have := make_calls (bl z) 0 (by rw [LN.bl_size]; omega) W hS
        rwa [bs_bl] at this)
      have fb := field_buf0 (.string (bs (mS (bl z)))) (.int .i64 (mA (bl z) 0 : Int))
      have hzb : z = bs (bl z) := (bs_bl z).symm
      have HGz : Hid (GoodZ z ↔ mS (bl z) = bl z ∧ bl z ≠ []) := Lib.hid Iff.rfl
      have Hz := Lib.hid hz
      have Htl := Lib.hid htl
      generalize mA (bl z) 0 = ma at *
      generalize mS (bl z) = m at *
      generalize bl z = q at *
      subst hzb
      rw [bs_size] at hw1
      clear hz htl hts hc hg
      go_wp2_with fail
      refine (HM.out wr (spans_below HS.out HB.out)).mono ?_
      rintro e w2 ⟨rfl, hb2⟩
      have HB2 := Lib.hid (HB.out.trans (hb2.mono HB.out.size))
      clear hb2 HM
      by_cases hm : m = q
      · by_cases hq : q = []
        · have t1 : (m == q) = true := beq_iff_eq.2 hm
          have t2 : q.isEmpty = true := by rw [hq]; rfl
          clear hm hq HGz
          go_wp2_with fail
          refine (lalive_calls w2 (spans_below HS.out HB2.out)).mono ?_
          rintro e w9 ⟨rfl, hb9⟩
          have HB9 := Lib.hid ((HB2.out).trans (hb9.mono (HB2.out).size))
          clear hb9
          go_wp2_with fail
          go_ret
          exact ⟨rfl, HB9.out⟩
        · have t1 : (m == q) = true := beq_iff_eq.2 hm
          have t2 : q.isEmpty = false := by cases q with
            | nil => exact absurd rfl hq
            | cons x l => rfl
          have HG2 : Hid (∀ (i : Nat) (z : ByteArray), i < k + 1 → zs[i]? = some z → GoodZ z) := Lib.hid (fun i z hi hz => by
            by_cases hik : i < k
            · exact HG.out i z hik hz
            · have e : i = k := by omega
              subst e
              rw [Hz.out] at hz
              injection hz with hz
              subst hz
              exact HGz.out.2 ⟨hm, hq⟩)
          clear hm hq HGz HG
          go_wp2_with fail
          go_roundw
          case rel => exact ⟨k + 1, by omega, by go_num, rfl, HB2, HG2⟩
          case measure => simp [intOf]; omega
      · have t1 : (m == q) = false := beq_eq_false_iff_ne.2 hm
        clear hm HGz
        go_wp2_with fail
        refine (lalive_calls w2 (spans_below HS.out HB2.out)).mono ?_
        rintro e w9 ⟨rfl, hb9⟩
        have HB9 := Lib.hid ((HB2.out).trans (hb9.mono (HB2.out).size))
        clear hb9
        go_wp2_with fail
        go_ret
        exact ⟨rfl, HB9.out⟩
    · obtain rfl : k = zs.length := by omega
      have HGall : Hid (∀ z ∈ zs, GoodZ z) := Lib.hid (fun z hz => by
        obtain ⟨i, hi, e⟩ := List.getElem_of_mem hz
        exact HG.out i z hi (by rw [List.getElem?_eq_getElem hi, e]))
      have HTm := Lib.hid (totS_mem zs)
      clear HG hk hlt
      generalize totS zs zs.length = n at *
      go_wp2_with fail
      refine (new_callsL wr (spans_below HS.out HB.out)).mono ?_
      rintro e w2 ⟨b, rfl, hi⟩
      have HX : Hid (LnX w w2 (fun _ => False) b LN.new dr0 ds0 0 600) := Lib.hid (LnX.start (by
        obtain ⟨O, F, a1, a2, a3⟩ := hi
        exact ⟨O, F, a1, fun k hk => Nat.le_trans HB.out.size (a2 k hk), HB.out.trans (a3.mono HB.out.size)⟩) (LN.new_sm 600))
      clear hi HB
      by_cases q1 : 8 < zs.length
      · have d1 : (8 : Int) < (zs.length : Int) := by omega
        clear q1
        go_wp2_with fail
        refine (lalive_calls w2 (spans_below HS.out HX.out.bel)).mono ?_
        rintro e w9 ⟨rfl, hb9⟩
        have HB9 := Lib.hid ((HX.out.bel).trans (hb9.mono (HX.out.bel).size))
        clear hb9
        go_wp2_with fail
        go_ret
        exact ⟨rfl, HB9.out⟩
      · have d1 : ¬ (8 : Int) < (zs.length : Int) := by omega
        by_cases q2 : zs.length = 0
        · have d2 : ((zs.length : Int) == 0) = true := beq_iff_eq.2 (by omega)
          clear q1 q2
          go_wp2_with fail
          refine (lalive_calls w2 (spans_below HS.out HX.out.bel)).mono ?_
          rintro e w9 ⟨rfl, hb9⟩
          have HB9 := Lib.hid ((HX.out.bel).trans (hb9.mono (HX.out.bel).size))
          clear hb9
          go_wp2_with fail
          go_ret
          exact ⟨rfl, HB9.out⟩
        · have d2 : ((zs.length : Int) == 0) = false := beq_eq_false_iff_ne.2 (by omega)
          by_cases q3 : 500 < n
          · have d3 : (500 : Int) < (n : Int) := by omega
            clear q1 q2 q3
            go_wp2_with fail
            refine (lalive_calls w2 (spans_below HS.out HX.out.bel)).mono ?_
            rintro e w9 ⟨rfl, hb9⟩
            have HB9 := Lib.hid ((HX.out.bel).trans (hb9.mono (HX.out.bel).size))
            clear hb9
            go_wp2_with fail
            go_ret
            exact ⟨rfl, HB9.out⟩
          · have d3 : ¬ (500 : Int) < (n : Int) := by omega
            have h6 : Hid (∀ z ∈ zs, z.size ≤ 600) := Lib.hid (fun z hz => by have := HTm.out z hz; omega)
            have hlen : 0 < zs.length ∧ zs.length ≤ 8 := by omega
            clear q1 q2 q3 HTm
            go_wp2_with fail
            clear d1 d2 d3
            go_loopw [55] (fun v55 wr => ∃ (k : Nat) (s : LN), k ≤ zs.length ∧ v55 = .int .i64 (k : Int) ∧ Hid (LnX w wr (fun _ => False) b s dr0 ds0 0 600) ∧ Hid (LN.FillAt zs k s)) (fun v55 _ => zs.length - (intOf v55).toNat)
            case atStart => exact ⟨0, LN.new, Nat.zero_le _, rfl, HX, Lib.hid (LN.FillAt.new zs)⟩
            case round =>
              clear HX
              obtain ⟨k, s, hk, rfl, HX, HF⟩ := hrel
              by_cases hlt : k < zs.length
              · have hkl : (k : Int) < (zs.length : Int) := by omega
                obtain ⟨z, hz⟩ : ∃ z, zs[k]? = some z := ⟨_, List.getElem?_eq_getElem hlt⟩
                obtain ⟨g, o, rfl, hg, hc⟩ := (HV.out.below HX.out.bel) hlen.1
                have c0 := hc k z hz
                have hmem := List.mem_of_getElem? hz
                have Hz6 := Lib.hid (h6.out z hmem)
                have HF2 := Lib.hid (HF.out.step hz (HGall.out z hmem).1 (HGall.out z hmem).2 (by omega))
                have Hsm4 : Hid (SmR ((((s.set (bl z)).key 7 []).key 11 []).set []).ring 600) := Lib.hid (fun x hx => by
                  rw [HF2.out.l] at hx
                  exact h6.out x (List.mem_of_mem_take (List.mem_reverse.1 hx)))
                have Hsm3 : Hid (SmR (((s.set (bl z)).key 7 []).key 11 []).ring 600) := Hsm4
                clear hc hg hz hmem
                go_wp2_with fail
                refine (HX.out.line (C' := 600) (LN.set_sm HX.out.sm (bl z)) (fun O F hl => by
                  have := set_callsL wr O F b s hl (spans_below HS.out HX.out.bel) (bl z) (by rw [LN.bl_size]; have := Hz6.out; omega) (HX.out.sm.mono (by decide))
                  rwa [bs_bl] at this)).mono ?_
                rintro e w3 ⟨rfl, hx, _⟩
                have HX3 := Lib.hid hx
                clear hx HX c0
                go_wp2_with fail
                refine (HX3.out.line (C' := 600) (LN.key_sm0 HX3.out.sm 7 [] rfl) (fun O F hl => key_callsL w3 O F b _ hl (spans_below HS.out HX3.out.bel) 7 [] (by decide) (HX3.out.sm.mono (by decide)))).mono ?_
                rintro e w4 ⟨rfl, hx, _⟩
                have HX4 := Lib.hid hx
                clear hx HX3
                go_wp2_with fail
                refine (HX4.out.line (C' := 600) Hsm3.out (fun O F hl => key_callsL w4 O F b _ hl (spans_below HS.out HX4.out.bel) 11 [] (by decide) (HX4.out.sm.mono (by decide)))).mono ?_
                rintro e w5 ⟨rfl, hx, _⟩
                have HX5 := Lib.hid hx
                clear hx HX4
                go_wp2_with fail
                refine (HX5.out.line (C' := 600) Hsm4.out (fun O F hl => set_callsL w5 O F b _ hl (spans_below HS.out HX5.out.bel) [] (by decide) (HX5.out.sm.mono (by decide)))).mono ?_
                rintro e w6 ⟨rfl, hx, _⟩
                have HX6 := Lib.hid hx
                clear hx HX5
                go_wp2_with fail
                go_roundw
                case rel => exact ⟨k + 1, _, by omega, by go_num, HX6, HF2⟩
                case measure => simp [intOf]; omega
              · obtain rfl : k = zs.length := by omega
                have HP0 := Lib.hid (LN.PopAt.start HF.out hlen.1 (fun z hz => (HGall.out z hz).1))
                have Hsm : Hid (SmR (s.key 15 []).ring 600) := Lib.hid (fun x hx => by
                  rw [HP0.out.l] at hx
                  exact h6.out x (List.mem_reverse.1 hx))
                clear hlt HF hk
                go_wp2_with fail
                refine (HX.out.line (C' := 600) Hsm.out (fun O F hl => key_callsL wr O F b _ hl (spans_below HS.out HX.out.bel) 15 [] (by decide) (HX.out.sm.mono (by decide)))).mono ?_
                rintro e w3 ⟨rfl, hx, _⟩
                have HX3 := Lib.hid hx
                have hw2 : IntKind.i64.wrap (2 * (zs.length : Int)) = ((2 * zs.length : Nat) : Int) := by rw [IntWalk.i64_in _ (by omega)]; omega
                clear hx HX Hsm
                generalize s.key 15 [] = s0 at *
                go_wp2_with fail
                go_loopw [77] (fun v77 wr => ∃ (k : Nat) (s : LN), k ≤ 2 * zs.length ∧ v77 = .int .i64 (k : Int) ∧ Hid (LnX w wr (fun _ => False) b s dr0 ds0 0 600) ∧ Hid (LN.PopAt zs k s)) (fun v77 _ => 2 * zs.length - (intOf v77).toNat)
                case atStart => exact ⟨0, s0, Nat.zero_le _, rfl, HX3, HP0⟩
                case round =>
                  clear HX3 HP0 hw2
                  obtain ⟨k, s, hk, rfl, HX, HP⟩ := hrel
                  by_cases hlt : k < 2 * zs.length
                  · have hkl : (k : Int) < ((2 * zs.length : Nat) : Int) := by omega
                    obtain ⟨y, hy1, hy2, hy3⟩ := HP.out.at_
                    have HP2 := Lib.hid (HP.out.step hlen.1 (fun z hz => (HGall.out z hz).1) HX.out.ok.ring)
                    have Hsm : Hid (SmR (s.key 16 []).ring 600) := Lib.hid (fun x hx => by
                      rw [HP2.out.l] at hx
                      exact h6.out x (List.mem_reverse.1 hx))
                    obtain ⟨g, o, rfl, hg, hc⟩ := HV.out hlen.1
                    have hmod := Nat.mod_lt k hlen.1
                    have hyz : zs[zs.length - 1 - k % zs.length]? = some y := by
                      rw [List.getElem?_reverse hmod] at hy1
                      exact hy1
                    have HC : Hid (∀ W, Below w.heap.size w W → W.cell? ⟨g, o + (zs.length - 1 - k % zs.length), none⟩ = some (.string (bs (bl y)))) := Lib.hid (fun W hW => by rw [bs_bl]; exact (hW.cell (p := ⟨g, o + (zs.length - 1 - k % zs.length), none⟩) hg).trans (hc _ y hyz))
                    have c0 := HC.out wr HX.out.bel
                    have hm1 : IntKind.i64.wrap ((zs.length : Int) - 1) = (zs.length : Int) - 1 := IntWalk.i64_in _ (by omega)
                    have hm3 : IntKind.i64.wrap ((zs.length : Int) - 1 - (k : Int).tmod (zs.length : Int)) = ((zs.length - 1 - k % zs.length : Nat) : Int) := by rw [show (k : Int).tmod (zs.length : Int) = ((k % zs.length : Nat) : Int) from rfl, IntWalk.i64_in _ (by omega)]; omega
                    have hm4 : ((zs.length - 1 - k % zs.length : Nat) : Int) < (zs.length : Int) := by omega
                    have hz0 : ¬ zs = [] := fun e => by have := hlen.1; rw [e] at this; exact absurd this (Nat.lt_irrefl 0)
                    have HYb := Lib.hid hy2
                    have HBf := Lib.hid (fun O F hl => buf_callsL wr.drew O F b s hl (spans_below HS.out (HX.out.below Below.drewR).bel))
                    clear hy1 hy2 hy3 hg hc hyz
                    go_upto_region 24 with fail
                    refine wp_region_held_drew (S := (fun w' => w'.cell? ⟨g, o + (zs.length - 1 - k % zs.length), none⟩ = some (.string (bs (bl y))))) (by kernel_rfl) c0 (fun hHeld => ?_)
                    refine wpAnyH_take (i := 0) (oi := ⟨some 80, _, _, _, _, _⟩) (v := ?_) rfl (by kernel_rfl) (by kernel_rfl) (by kernel_rfl) (fun _ _ _ h => h) (Or.inl ⟨by kernel_rfl, ?hy0⟩) (by assumption) ?_
                    case hy0 => (intro w' hSw; (try dsimp only at hSw); go_simp; try with_reducible rfl)
                    simp only [Act.put, List.setIfInBounds_toArray, List.set_cons_zero, List.set_cons_succ]
                    refine wpAnyH_take (i := 3) (oi := ⟨some 83, _, _, _, _, _⟩) (v := ?_) rfl (by kernel_rfl) (by kernel_rfl) (by kernel_rfl) (fun _ _ _ h => h) (Or.inl ⟨by kernel_rfl, ?hy3⟩) (by assumption) ?_
                    case hy3 => (intro w' hSw; (try dsimp only at hSw); go_simp; try with_reducible rfl)
                    simp only [Act.put, List.setIfInBounds_toArray, List.set_cons_zero, List.set_cons_succ]
                    refine wpAnyH_take (i := 4) (oi := ⟨some 84, _, _, _, _, _⟩) (v := ?_) rfl (by kernel_rfl) (by kernel_rfl) (by kernel_rfl) (fun _ _ _ h => h) (Or.inl ⟨by kernel_rfl, ?hy4⟩) (by assumption) ?_
                    case hy4 => (intro w' hSw; (try dsimp only at hSw); go_simp; try with_reducible rfl)
                    simp only [Act.put, List.setIfInBounds_toArray, List.set_cons_zero, List.set_cons_succ]
                    refine wpAnyH_take (i := 5) (oi := ⟨some 85, _, _, _, _, _⟩) (v := ?_) rfl (by kernel_rfl) (by kernel_rfl) (by kernel_rfl) (fun _ _ _ h => h) (Or.inl ⟨by kernel_rfl, ?hy5⟩) (by assumption) ?_
                    case hy5 => (intro w' hSw; (try dsimp only at hSw); go_simp; try with_reducible rfl)
                    simp only [Act.put, List.setIfInBounds_toArray, List.set_cons_zero, List.set_cons_succ]
                    refine wpAnyH_take (i := 6) (oi := ⟨some 86, _, _, _, _, _⟩) (v := ?_) rfl (by kernel_rfl) (by kernel_rfl) (by kernel_rfl) (fun _ _ _ h => h) (Or.inl ⟨by kernel_rfl, ?hy6⟩) (by assumption) ?_
                    case hy6 => (intro w' hSw; (try dsimp only at hSw); go_simp; try with_reducible rfl)
                    simp only [Act.put, List.setIfInBounds_toArray, List.set_cons_zero, List.set_cons_succ]
                    refine wpAnyH_take (i := 7) (oi := ⟨some 87, _, _, _, _, _⟩) (v := ?_) rfl (by kernel_rfl) (by kernel_rfl) (by kernel_rfl) (fun _ _ _ h => h) (Or.inl ⟨by kernel_rfl, ?hy7⟩) (by assumption) ?_
                    case hy7 => (intro w' hSw; (try dsimp only at hSw); go_simp; try with_reducible rfl)
                    simp only [Act.put, List.setIfInBounds_toArray, List.set_cons_zero, List.set_cons_succ]
                    refine wpAnyH_take (i := 8) (oi := ⟨some 88, _, _, _, _, _⟩) (v := ?_) rfl (by kernel_rfl) (by kernel_rfl) (by kernel_rfl) (fun _ _ _ h => h) (Or.inl ⟨by kernel_rfl, ?hy8⟩) (by assumption) ?_
                    case hy8 => (intro w' hSw; (try dsimp only at hSw); go_simp; try with_reducible rfl)
                    simp only [Act.put, List.setIfInBounds_toArray, List.set_cons_zero, List.set_cons_succ]
                    refine wpAnyH_take (i := 9) (oi := ⟨some 89, _, _, _, _, _⟩) (v := ?_) rfl (by kernel_rfl) (by kernel_rfl) (by kernel_rfl) (fun _ _ _ h => h) (Or.inl ⟨by kernel_rfl, ?hy9⟩) (by assumption) ?_
                    case hy9 => (intro w' hSw; (try dsimp only at hSw); go_simp; try with_reducible rfl)
                    simp only [Act.put, List.setIfInBounds_toArray, List.set_cons_zero, List.set_cons_succ]
                    refine wpAnyH_take (i := 10) (oi := ⟨some 90, _, _, _, _, _⟩) (v := ?_) rfl (by kernel_rfl) (by kernel_rfl) (by kernel_rfl) (fun _ _ _ h => h) (Or.inl ⟨by kernel_rfl, ?hy10⟩) (by assumption) ?_
                    case hy10 => (intro w' hSw; (try dsimp only at hSw); go_simp; try with_reducible rfl)
                    simp only [Act.put, List.setIfInBounds_toArray, List.set_cons_zero, List.set_cons_succ]
                    refine wpAnyH_take (i := 11) (oi := ⟨some 91, _, _, _, _, _⟩) (v := ?_) rfl (by kernel_rfl) (by kernel_rfl) (by kernel_rfl) (fun _ _ _ h => h) (Or.inl ⟨by kernel_rfl, ?hy11⟩) (by assumption) ?_
                    case hy11 => (intro w' hSw; (try dsimp only at hSw); go_simp; try with_reducible rfl)
                    simp only [Act.put, List.setIfInBounds_toArray, List.set_cons_zero, List.set_cons_succ]
                    refine wpAnyH_take (i := 12) (oi := ⟨some 92, _, _, _, _, _⟩) (v := ?_) rfl (by kernel_rfl) (by kernel_rfl) (by kernel_rfl) (fun _ _ _ h => h) (Or.inl ⟨by kernel_rfl, ?hy12⟩) (by assumption) ?_
                    case hy12 => (intro w' hSw; (try dsimp only at hSw); go_simp; try with_reducible rfl)
                    simp only [Act.put, List.setIfInBounds_toArray, List.set_cons_zero, List.set_cons_succ]
                    refine wpAnyH_take (i := 13) (oi := ⟨some 93, _, _, _, _, _⟩) (v := ?_) rfl (by kernel_rfl) (by kernel_rfl) (by kernel_rfl) (fun _ _ _ h => h) (Or.inl ⟨by kernel_rfl, ?hy13⟩) (by assumption) ?_
                    case hy13 => (intro w' hSw; (try dsimp only at hSw); go_simp; try with_reducible rfl)
                    simp only [Act.put, List.setIfInBounds_toArray, List.set_cons_zero, List.set_cons_succ]
                    refine wpAnyH_ready (rs := [1]) (by kernel_rfl) (by simp) ?_
                    refine AllReadyH.cons (o := ⟨some 81, _, _, _, _, _⟩) rfl (fun K hK => ?_) AllReadyH.nil
                    (rw [if_pos (by kernel_rfl)])
                    go_simp
                    refine (HX.out.below Below.drewR |>.rd (fun O F hl => buf_callsL wr.drew O F b s hl (spans_below HS.out (HX.out.below Below.drewR).bel))).mono ?_
                    rintro e w9 ⟨rfl, hx, _⟩
                    have q9 := HC.out w9 hx.bel
                    have HX9 := Lib.hid hx
                    rw [HYb.out]
                    have fb := field_buf0 (.string (bs (bl y))) (.int .i64 ((y.size : Nat) : Int))
                    have tne : (bl y == bl y) = true := beq_self_eq_true _
                    clear hx
                    refine hK.out _ _ q9 (fun hHeld => ?_)
                    clear hK K
                    refine wpAnyH_take (i := 2) (oi := ⟨some 82, _, _, _, _, _⟩) (v := ?_) rfl (by kernel_rfl) (by kernel_rfl) (by kernel_rfl) (fun _ _ _ h => h) (Or.inl ⟨by kernel_rfl, ?hy2⟩) (by assumption) ?_
                    case hy2 => (intro w' hSw; (try dsimp only at hSw); go_simp; try with_reducible rfl)
                    simp only [Act.put, List.setIfInBounds_toArray, List.set_cons_zero, List.set_cons_succ]
                    refine wpAnyH_take (i := 14) (oi := ⟨some 94, _, _, _, _, _⟩) (v := ?_) rfl (by kernel_rfl) (by kernel_rfl) (by kernel_rfl) (fun _ _ _ h => h) (Or.inl ⟨by kernel_rfl, ?hy14⟩) (by assumption) ?_
                    case hy14 => (intro w' hSw; (try dsimp only at hSw); go_simp; try with_reducible rfl)
                    simp only [Act.put, List.setIfInBounds_toArray, List.set_cons_zero, List.set_cons_succ]
                    refine wpAnyH_done (by kernel_rfl) ?_ _
                    go_wp2_with fail
                    refine (HX9.out.line (C' := 600) Hsm.out (fun O F hl => key_callsL w9 O F b _ hl (spans_below HS.out HX9.out.bel) 16 [] (by decide) (HX9.out.sm.mono (by decide)))).mono ?_
                    rintro e w10 ⟨rfl, hx, _⟩
                    have HX10 := Lib.hid hx
                    clear hx HX9 Hsm
                    go_wp2_with fail
                    go_roundw
                    case rel => exact ⟨k + 1, _, by omega, by go_num, HX10, HP2⟩
                    case measure => simp [intOf]; omega
                  · obtain rfl : k = 2 * zs.length := by omega
                    have Hl := Lib.hid HP.out.l
                    clear HP hlt hk
                    go_wp2_with fail
                    refine (lalive_calls wr (spans_below HS.out HX.out.bel)).mono ?_
                    rintro e w9 ⟨rfl, hb9⟩
                    have HX9 := Lib.hid (HX.out.below hb9)
                    clear hb9 HX
                    go_wp2_with fail
                    refine (HX9.out.rd (E := fun e w' => ∃ A c, e = .returned (.slice A s.ring.l.length c) ∧ RdV Value.string w' A s.ring.l) (fun O F hl => (kills_callsL w9 O F b s hl (spans_below HS.out HX9.out.bel)).mono (fun _ _ hh => by obtain ⟨A, c, e1, e2, e3⟩ := hh; exact ⟨⟨A, c, e1, e2⟩, e3⟩))).mono ?_
                    rintro e w10 ⟨⟨A1, c1, rfl, _⟩, hx, _⟩
                    rw [Hl.out, List.length_reverse]
                    have HX10 := Lib.hid hx
                    clear hx HX9
                    go_wp2_with fail
                    go_ret
                    exact ⟨rfl, HX10.out.bel⟩
end Go.Proofs.YtoaponaljkhlfaaDoor
