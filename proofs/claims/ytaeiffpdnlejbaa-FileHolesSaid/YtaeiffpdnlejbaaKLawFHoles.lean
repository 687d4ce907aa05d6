/-
  The walk of FileHoles (layer 10).
-/
import Derived.Test.YtaeiffpdnlejbaaPb27
import Derived.RegionTactic
namespace Go.Proofs.Ytaeiffpdnlejbaa
open Go Go.RowKit
set_option maxRecDepth 100000

theorem RdBs.at_ {w : World} {A : Option Addr} {ls : List (List UInt8)} (h : RdBs w A ls) {k : Nat} (hk : k < ls.length) : ∃ g o Ai ci, A = some ⟨g, o, none⟩ ∧ w.cell? ⟨g, o + k, none⟩ = some (.slice Ai (ls.getD k []).length ci) ∧ Byt w Ai (ls.getD k []) ∧ (Ai = none → ci = 0) := by
  obtain ⟨g, o, e, _, hc⟩ := h (by omega)
  obtain ⟨Ai, ci, h1, h2, h3⟩ := hc k ls[k] (List.getElem?_eq_getElem hk)
  have hd : ls.getD k [] = ls[k] := by simp [List.getD, hk]
  rw [hd]
  exact ⟨g, o, Ai, ci, e, h1, h2, h3⟩
theorem rowT_old {α : Type} {C : α → List Value} {w W : World} {X R : Nat → Prop} {A : Option Addr} {l : List α} (h : RowT C w R A l) (hb : Below w.heap.size w W) (hX : ∀ k, k < w.heap.size → X k) : RowT C W X A l := fun hn => by
  obtain ⟨g, o, e, _, hg, hc⟩ := h hn
  exact ⟨g, o, e, hX g hg, Nat.lt_of_lt_of_le hg hb.size, fun j v hj => (hb.cell (p := ⟨g, o + j, none⟩) hg).trans (hc j v hj)⟩
/-- So many bytes there are in the first k. -/
def totK (ls : List (List UInt8)) (k : Nat) : Nat := (ls.take k).flatten.length
theorem take_succ' {ls : List (List UInt8)} {k : Nat} (hk : k < ls.length) : ls.take (k + 1) = ls.take k ++ [ls.getD k []] := by
  rw [List.take_add_one, List.getElem?_eq_getElem hk]
  simp [List.getD, hk]
theorem totK_succ {ls : List (List UInt8)} {k : Nat} (hk : k < ls.length) : totK ls (k + 1) = totK ls k + (ls.getD k []).length := by
  unfold totK
  rw [take_succ' hk, List.flatten_append, List.length_append]
  simp
theorem totK_le (ls : List (List UInt8)) (h : ∀ l ∈ ls, l.length ≤ 140737488355328) : ∀ k, totK ls k ≤ k * 140737488355328
  | 0 => by simp [totK]
  | k + 1 => by
    have ih := totK_le ls h k
    by_cases hk : k < ls.length
    · rw [totK_succ hk]
      have : (ls.getD k []).length ≤ 140737488355328 := h _ (by simp [List.getD, hk])
      omega
    · have e : totK ls (k + 1) = totK ls k := by unfold totK; rw [List.take_of_length_le (by omega), List.take_of_length_le (by omega)]
      omega
theorem totK_mono (ls : List (List UInt8)) : ∀ k, totK ls k ≤ totK ls ls.length := fun k => by
  unfold totK
  rw [List.take_length]
  have : (ls.take k).flatten <+: ls.flatten := by
    have h := (List.take_append_drop k ls)
    have h2 := congrArg List.flatten h
    rw [List.flatten_append] at h2
    exact ⟨_, h2⟩
  exact this.length_le
/-- The bytes so far, all of them, and those that a crash leaves. -/
def allK (ls : List (List UInt8)) (k : Nat) : List UInt8 := (ls.take k).flatten
def wantK (ks : List Bool) (ls : List (List UInt8)) (k : Nat) : List UInt8 := wantL ks 0 [] [] (ls.take k)
theorem allK_succ {ls : List (List UInt8)} {k : Nat} (hk : k < ls.length) : allK ls (k + 1) = allK ls k ++ ls.getD k [] := by
  unfold allK
  rw [take_succ' hk, List.flatten_append]
  simp
theorem wantK_succ {ks : List Bool} {ls : List (List UInt8)} {k : Nat} (hk : k < ls.length) : wantK ks ls (k + 1) = if FS.kept ks k = true ∧ ls.getD k [] ≠ [] then wantK ks ls k ++ List.replicate ((allK ls k).length - (wantK ks ls k).length) 0 ++ ls.getD k [] else wantK ks ls k := by
  unfold wantK
  rw [take_succ' hk, want_snoc, List.length_take, Nat.min_eq_left (by omega), Nat.zero_add, List.nil_append]
  rfl
theorem wantK_len (ks : List Bool) (ls : List (List UInt8)) (k : Nat) : (wantK ks ls k).length ≤ (allK ls k).length := by
  have := (want_is ks (ls.take k) 0 [] [] (Nat.le_refl _)).2
  rw [List.nil_append] at this
  exact this
def hK (ls : List (List UInt8)) (k : Nat) : FS := holeS (ls.take k) k (-1)
theorem hK_write {ls : List (List UInt8)} {k : Nat} (hk : k < ls.length) (ht : totK ls ls.length ≤ 3000) : (hK ls k).write nA (ls.getD k []) = (hK ls (k + 1), 0) := by
  unfold hK
  have h1 := totK_succ hk
  have h2 := totK_mono ls (k + 1)
  unfold totK at h1 h2 ht
  rw [hole_write _ _ _ _ (by omega), if_neg (by decide), if_neg (by decide), take_succ' hk]
theorem hK_at {ls : List (List UInt8)} (ht : totK ls ls.length ≤ 3000) : ∀ k, k ≤ ls.length → (hK ls k).At k
  | 0, _ => FS.At.new
  | k + 1, hk => by
    have h := (hK_at ht k (by omega)).write nA (ls.getD k [])
    rw [hK_write (by omega) ht] at h
    exact h
set_option maxHeartbeats 8000000 in
theorem fholes_law (A : Option Addr) (c : Nat) (ls : List (List UInt8)) (KA : Option Addr) (kc : Nat) (ks : List Bool) (w : World) (hR : RdBs w A ls) (hKR : RowT boolC w (fun _ => True) KA ks) (hl : ls.length ≤ 9223372036854775807) (hl2 : ∀ l ∈ ls, l.length ≤ 140737488355328) (hkl : ks.length ≤ 9223372036854775807) :
    Calls Try.prog 6 #[.slice A ls.length c, .slice KA ks.length kc] w fun e w' => e = .returned (.bool true) ∧ Below w.heap.size w w' := by
  have HR := Lib.hid hR
  have HK := Lib.hid hKR
  have HT := Lib.hid (totK_le ls hl2)
  have HL2 := Lib.hid hl2
  have halv : ∀ w1, Below w.heap.size w w1 → Hid (Calls Try.prog 11 #[] w1 fun e w' => e = .returned (.bool true) ∧ Below w.heap.size w w') := fun w1 hb => Lib.hid ((falive_calls w1).mono (by rintro e w' ⟨h1, h2⟩; exact ⟨h1, hb.trans (h2.mono hb.size)⟩))
  have HAL := Lib.hid halv
  clear hR hKR hl2 halv
  go_enter Try.func6, Try.ntmps6
  go_wp2_with fail
  go_loopw [5, 17] (fun v5 v17 wr => ∃ (k : Nat) (z : Int), k ≤ ls.length ∧ v5 = .int .i64 z ∧ v17 = .int .i64 (k : Int) ∧ Hid (k ≤ 60 → z = (totK ls k : Int)) ∧ w = wr) (fun _ v17 _ => ls.length - (intOf v17).toNat)
  case atStart => exact ⟨0, 0, Nat.zero_le _, rfl, rfl, Lib.hid (fun _ => by simp [totK]), rfl⟩
  case round =>
    obtain ⟨k, z, hk, rfl, rfl, hz, rfl⟩ := hrel
    by_cases hlt : k < ls.length
    · obtain ⟨g, o, Ai, ci, rfl, c0, _, _⟩ := HR.out.at_ hlt
      have hkl' : (k : Int) < (ls.length : Int) := by omega
      have HSu := Lib.hid (totK_succ hlt)
      by_cases h60 : k < 60
      · have hzz := hz.out (by omega)
        have ht := HT.out k
        have hs : (ls.getD k []).length ≤ 140737488355328 := HL2.out _ (by simp [List.getD, hlt])
        have hw : IntKind.i64.wrap ((totK ls k : Int) + ((ls.getD k []).length : Int)) = (totK ls k : Int) + ((ls.getD k []).length : Int) := IntWalk.i64_in _ (by omega)
        subst hzz
        clear ht hs
        generalize (ls.getD k []).length = bl at *
        generalize totK ls k = tk at *
        go_wp2_with fail
        go_roundw
        case rel => exact ⟨k + 1, _, by omega, rfl, by go_num, Lib.hid (fun _ => by rw [HSu.out]; omega), trivial⟩
        case measure => simp [intOf]; omega
      · have hbig : ¬ k + 1 ≤ 60 := by omega
        generalize (ls.getD k []).length = bl at *
        go_wp2_with fail
        go_roundw
        case rel => exact ⟨k + 1, _, by omega, rfl, by go_num, Lib.hid (fun h => absurd h hbig), trivial⟩
        case measure => simp [intOf]; omega
    · obtain rfl : k = ls.length := by omega
      rcases (show (3000 < z) ∨ (¬ 3000 < z ∧ 60 < ls.length) ∨ (¬ 3000 < z ∧ ¬ 60 < ls.length ∧ 60 < ks.length) ∨ (¬ 3000 < z ∧ ¬ 60 < ls.length ∧ ¬ 60 < ks.length) by omega) with h | ⟨h, h'⟩ | ⟨h, h', h''⟩ | ⟨h, h', h''⟩
      · have d0 : decide (3000 < z) = true := decide_eq_true h
        clear hz hl hkl hk hlt h
        go_wp2_with fail
        refine (fnew_calls w).mono ?_
        rintro e w1 ⟨b, rfl, hin⟩
        have HV := HAL.out w1 hin.bel
        clear hin
        go_wp2_with fail
        refine HV.out.mono ?_
        rintro e w2 ⟨rfl, hb⟩
        have HRR := Lib.hid hb
        clear hb HV
        go_wp2_with fail
        go_ret
        exact ⟨rfl, HRR.out⟩
      · have d0 : decide (3000 < z) = false := decide_eq_false h
        have d1 : decide (60 < (ls.length : Int)) = true := decide_eq_true (by omega)
        clear h'
        clear hz hl hkl hk hlt h
        go_wp2_with fail
        refine (fnew_calls w).mono ?_
        rintro e w1 ⟨b, rfl, hin⟩
        have HV := HAL.out w1 hin.bel
        clear hin
        go_wp2_with fail
        refine HV.out.mono ?_
        rintro e w2 ⟨rfl, hb⟩
        have HRR := Lib.hid hb
        clear hb HV
        go_wp2_with fail
        go_ret
        exact ⟨rfl, HRR.out⟩
      · have d0 : decide (3000 < z) = false := decide_eq_false h
        have d1 : decide (60 < (ls.length : Int)) = false := decide_eq_false (by omega)
        have d2 : decide (60 < (ks.length : Int)) = true := decide_eq_true (by omega)
        clear h' h''
        clear hz hl hkl hk hlt h
        go_wp2_with fail
        refine (fnew_calls w).mono ?_
        rintro e w1 ⟨b, rfl, hin⟩
        have HV := HAL.out w1 hin.bel
        clear hin
        go_wp2_with fail
        refine HV.out.mono ?_
        rintro e w2 ⟨rfl, hb⟩
        have HRR := Lib.hid hb
        clear hb HV
        go_wp2_with fail
        go_ret
        exact ⟨rfl, HRR.out⟩
      · have hzz := hz.out (by omega)
        subst hzz
        have d0 : decide (3000 < (totK ls ls.length : Int)) = false := decide_eq_false h
        have d1 : decide (60 < (ls.length : Int)) = false := decide_eq_false (by omega)
        have d2 : decide (60 < (ks.length : Int)) = false := decide_eq_false (by omega)
        have HTot : Hid (totK ls ls.length ≤ 3000) := Lib.hid (by omega)
        have HL60 : Hid (ls.length ≤ 60) := Lib.hid (by omega)
        have HK60 : Hid (ks.length ≤ 60) := Lib.hid (by omega)
        clear hz h h' h'' hk hlt hl hkl
        go_wp2_with fail
        refine (fnew_calls w).mono ?_
        rintro e w1 ⟨b, rfl, hin⟩
        have HF1 := Lib.hid (FX.of_in hin)
        clear hin
        go_wp2_with fail
        clear d0 d1 d2
        go_loopw [9, 10, 50] (fun v9 v10 v50 wr => ∃ (k : Nat) (X Y : Nat → Prop) (Aw : Option Addr) (cw : Nat) (Aa : Option Addr) (ca : Nat), k ≤ ls.length ∧ v9 = .slice Aw (wantK ks ls k).length cw ∧ v10 = .slice Aa (allK ls k).length ca ∧ v50 = .int .i64 (k : Int) ∧
          Hid (Own2 w wr X Y b (hK ls k) (.slice Aw (wantK ks ls k).length cw) (wantK ks ls k) (.slice Aa (allK ls k).length ca) (allK ls k))) (fun _ _ v50 _ => ls.length - (intOf v50).toNat)
        case atStart => exact ⟨0, _, _, none, 0, none, 0, Nat.zero_le _, rfl, rfl, rfl, Lib.hid ⟨HF1.out, OwnR.nil _ _ _ _, OwnR.nil _ _ _ _, fun g hg => (by cases hg), fun i hi => hi⟩⟩
        case round =>
          obtain ⟨k, X, Y, Aw, cw, Aa, ca, hk, rfl, rfl, rfl, h2⟩ := hrel
          by_cases hlt : k < ls.length
          · have hkl' : (k : Int) < (ls.length : Int) := by omega
            obtain ⟨g, o, Ai, ci, rfl, e0, _, _⟩ := (HR.out.below h2.out.fx.bel).at_ hlt
            obtain ⟨g', o', Ai', ci', hA', e0', hbx, hcx⟩ := HR.out.at_ hlt
            injection hA' with hA'
            injection hA' with hg ho
            subst hg; subst ho
            have hsame : Ai' = Ai ∧ ci' = ci := by
              have h5 := (h2.out.fx.bel.cell (p := ⟨g, o + k, none⟩) (World.block_lt_of_cell? _ _ e0')).trans e0'
              rw [e0] at h5
              injection h5 with h5
              injection h5 with h6 h7 h8
              exact ⟨h6.symm, h8.symm⟩
            obtain ⟨rfl, rfl⟩ := hsame
            have HBX := Lib.hid (And.intro hbx hcx)
            have HAt := Lib.hid ((hK_at HTot.out k (by omega)).fit (by have := HL60.out; omega))
            have HWs := Lib.hid (wantK_succ (ks := ks) hlt)
            have HAs := Lib.hid (allK_succ hlt)
            have hml := totK_mono ls k
            have hm1 := totK_mono ls (k + 1)
            have hsu := totK_succ hlt
            have HLen : Hid ((allK ls k).length ≤ 3000 ∧ (wantK ks ls k).length ≤ (allK ls k).length ∧ (ls.getD k []).length ≤ 3000) := Lib.hid ⟨Nat.le_trans hml HTot.out, wantK_len ks ls k, by have := HTot.out; omega⟩
            have HW := Lib.hid (h2.out.fx.step (S2 := hK ls (k + 1)) (E := fun e => e = .returned (.int .i64 0)) fun O D q1 q2 => by
              have := fwrite_calls wr O D b _ q1 HAt.out nA Ai' ci' (ls.getD k []) ((byR_old hbx h2.out.fx.bel h2.out.old).mono fun i hi => (q2 i hi).2) hcx (by have := HLen.out; omega)
              rw [hK_write hlt HTot.out] at this
              exact this)
            clear hbx hcx e0' hml hm1 hsu HAt hk
            generalize ls.getD k [] = bk at *
            have hk61 : k ≤ 61 := by have := HL60.out; omega
            by_cases hz : ks.length = 0
            · have q0 : decide (0 < (ks.length : Int)) = false := decide_eq_false (by omega)
              have q0' : ¬ 0 < ks.length := by omega
              have q0'' : ¬ (0 : Int) < (ks.length : Int) := by omega
              have hcond : ¬ (FS.kept ks k = true ∧ bk ≠ []) := fun h => by
                have h1 := h.1
                unfold FS.kept at h1
                rw [decide_eq_false (by omega), Bool.false_and] at h1
                cases h1
              clear hz
              have HWE : Hid (wantK ks ls (k + 1) = wantK ks ls k) := Lib.hid (by rw [HWs.out, if_neg hcond])
              clear hcond HWs
              go_wp2_with fail
              refine HW.out.mono ?_
              rintro e w3 ⟨rfl, hf3, ho3⟩
              obtain ⟨A5, c5, w5, X5, Y5, r5, k5⟩ := (h2.out.keep hf3 ho3).swap.app Ai' ci' (bk) HBX.out.2 (HBX.out.1.below (h2.out.keep hf3 ho3).fx.bel) (by have := HLen.out; omega)
              have Hr5 := Lib.hid r5
              rw [← HAs.out] at k5 Hr5
              have HNX := Lib.hid k5.swap
              clear r5 k5 hf3 ho3 HW h2 HLen
              go_wp2_with (at_builtin; refine wpList_append_g (by rfl) (.tmp 88) (.tmp 89) 31 rfl _ _ rfl rfl Hr5.out ?_)
              go_wp2_with fail
              go_roundw
              case rel => exact ⟨k + 1, _, _, Aw, cw, A5, c5, by omega, by rw [HWE.out], rfl, by go_num, Lib.hid (by rw [HWE.out]; exact HNX.out)⟩
              case measure => simp [intOf]; omega
            · have q0 : decide (0 < (ks.length : Int)) = true := decide_eq_true (by omega)
              have q0' : 0 < ks.length := by omega
              have q0'' : (0 : Int) < (ks.length : Int) := by omega
              have q9 : ¬ (ks.length : Int) = 0 := by omega
              have q10 : ((ks.length : Int) == 0) = false := beq_eq_false_iff_ne.2 (by omega)
              have hmlt : k % ks.length < ks.length := Nat.mod_lt _ (by omega)
              have htm : Int.tmod (k : Int) (ks.length : Int) = ((k % ks.length : Nat) : Int) := (Int.ofNat_tmod _ _).symm
              have hem : (k : Int) % (ks.length : Int) = ((k % ks.length : Nat) : Int) := rfl
              have hwr : IntKind.i64.wrap ((k % ks.length : Nat) : Int) = ((k % ks.length : Nat) : Int) := IntWalk.i64_in _ (by have := HK60.out; omega)
              have hmli : ((k % ks.length : Nat) : Int) < (ks.length : Int) := by omega
              have hkd : FS.kept ks k = ks.getD (k % ks.length) false := by unfold FS.kept; rw [decide_eq_true (by omega), Bool.true_and]
              clear hz
              cases hkv : ks.getD (k % ks.length) false with
              | false =>
                have hcond : ¬ (FS.kept ks k = true ∧ bk ≠ []) := fun h => by
                  have h1 := h.1
                  rw [hkd, hkv] at h1
                  cases h1
                clear hkd
                have HWE : Hid (wantK ks ls (k + 1) = wantK ks ls k) := Lib.hid (by rw [HWs.out, if_neg hcond])
                clear hcond HWs
                go_wp2_with fail
                refine HW.out.mono ?_
                rintro e w3 ⟨rfl, hf3, ho3⟩
                have hKr := HK.out.below hf3.bel
                obtain ⟨gk, ok, hKA, hgk, ck⟩ := bool_at hKr hmlt
                subst hKA
                generalize hm : k % ks.length = mm at *
                rw [hkv] at ck
                clear hKr hm hgk
                obtain ⟨A5, c5, w5, X5, Y5, r5, k5⟩ := (h2.out.keep hf3 ho3).swap.app Ai' ci' (bk) HBX.out.2 (HBX.out.1.below (h2.out.keep hf3 ho3).fx.bel) (by have := HLen.out; omega)
                have Hr5 := Lib.hid r5
                rw [← HAs.out] at k5 Hr5
                have HNX := Lib.hid k5.swap
                clear r5 k5 hf3 ho3 HW h2 HLen
                go_wp2_with (at_builtin; refine wpList_append_g (by rfl) (.tmp 88) (.tmp 89) 31 rfl _ _ rfl rfl Hr5.out ?_)
                go_wp2_with fail
                go_roundw
                case rel => exact ⟨k + 1, _, _, Aw, cw, A5, c5, by omega, by rw [HWE.out], rfl, by go_num, Lib.hid (by rw [HWE.out]; exact HNX.out)⟩
                case measure => simp [intOf]; omega
              | true =>
                by_cases hb : bk = []
                · have q11 : decide (0 < (bk.length : Int)) = false := by rw [hb]; rfl
                  have q11' : ¬ 0 < bk.length := by rw [hb]; simp
                  have q11'' : ¬ (0 : Int) < (bk.length : Int) := by rw [hb]; simp
                  have hcond : ¬ (FS.kept ks k = true ∧ bk ≠ []) := fun h => h.2 hb
                  clear hkd hb
                  have HWE : Hid (wantK ks ls (k + 1) = wantK ks ls k) := Lib.hid (by rw [HWs.out, if_neg hcond])
                  clear hcond HWs
                  go_wp2_with fail
                  refine HW.out.mono ?_
                  rintro e w3 ⟨rfl, hf3, ho3⟩
                  have hKr := HK.out.below hf3.bel
                  obtain ⟨gk, ok, hKA, hgk, ck⟩ := bool_at hKr hmlt
                  subst hKA
                  generalize hm : k % ks.length = mm at *
                  rw [hkv] at ck
                  clear hKr hm hgk
                  obtain ⟨A5, c5, w5, X5, Y5, r5, k5⟩ := (h2.out.keep hf3 ho3).swap.app Ai' ci' (bk) HBX.out.2 (HBX.out.1.below (h2.out.keep hf3 ho3).fx.bel) (by have := HLen.out; omega)
                  have Hr5 := Lib.hid r5
                  rw [← HAs.out] at k5 Hr5
                  have HNX := Lib.hid k5.swap
                  clear r5 k5 hf3 ho3 HW h2 HLen
                  go_wp2_with (at_builtin; refine wpList_append_g (by rfl) (.tmp 88) (.tmp 89) 31 rfl _ _ rfl rfl Hr5.out ?_)
                  go_wp2_with fail
                  go_roundw
                  case rel => exact ⟨k + 1, _, _, Aw, cw, A5, c5, by omega, by rw [HWE.out], rfl, by go_num, Lib.hid (by rw [HWE.out]; exact HNX.out)⟩
                  case measure => simp [intOf]; omega
                · have q11 : decide (0 < (bk.length : Int)) = true := decide_eq_true (by have := List.length_pos_iff.2 hb; omega)
                  have q11' : 0 < bk.length := List.length_pos_iff.2 hb
                  have q11'' : (0 : Int) < (bk.length : Int) := by have := List.length_pos_iff.2 hb; omega
                  have HWE : Hid (wantK ks ls (k + 1) = wantK ks ls k ++ List.replicate ((allK ls k).length - (wantK ks ls k).length) 0 ++ bk) := Lib.hid (by rw [HWs.out, if_pos ⟨hkd.trans hkv, hb⟩])
                  have hsub : IntKind.i64.wrap (((allK ls k).length : Int) - ((wantK ks ls k).length : Int)) = (((allK ls k).length - (wantK ks ls k).length : Nat) : Int) := by
                    rw [IntWalk.i64_in _ (by have := HLen.out; omega)]
                    have := HLen.out
                    omega
                  clear hkd hb HWs
                  go_wp2_with fail
                  refine HW.out.mono ?_
                  rintro e w3 ⟨rfl, hf3, ho3⟩
                  have hKr := HK.out.below hf3.bel
                  obtain ⟨gk, ok, hKA, hgk, ck⟩ := bool_at hKr hmlt
                  subst hKA
                  generalize hm : k % ks.length = mm at *
                  rw [hkv] at ck
                  clear hKr hm hgk
                  obtain ⟨A4, c4, w4, r4, A5, c5, w5, X5, Y5, r5, k5⟩ := (h2.out.keep hf3 ho3).padded Aw cw rfl ((allK ls k).length - (wantK ks ls k).length) (by have := HLen.out; omega)
                  obtain ⟨A6, c6, w6, X6, Y6, r6, k6⟩ := k5.app Ai' ci' (bk) HBX.out.2 (HBX.out.1.below k5.fx.bel) (by have := HLen.out; simp; omega)
                  obtain ⟨A7, c7, w7, X7, Y7, r7, k7⟩ := k6.swap.app Ai' ci' (bk) HBX.out.2 (HBX.out.1.below k6.fx.bel) (by have := HLen.out; omega)
                  rw [← HWE.out] at k7 r6
                  rw [← HAs.out] at k7 r7
                  have Hr4 := Lib.hid r4
                  have Hr5 := Lib.hid r5
                  have Hr6 := Lib.hid r6
                  have Hr7 := Lib.hid r7
                  have HNX := Lib.hid k7.swap
                  generalize hpad : wantK ks ls k ++ List.replicate ((allK ls k).length - (wantK ks ls k).length) 0 = pad at *
                  clear r4 r5 r6 r7 k5 k6 k7 hf3 ho3 HW h2 HLen HWE HAs hpad
                  generalize bk.length = bl at *
                  go_wp2_with (first
                    | (at_builtin; refine wpList_append_g (o := ⟨some 78, _, _, _, _, _⟩) (by rfl) (.tmp 76) (.tmp 77) 31 rfl _ _ rfl rfl Hr4.out ?_)
                    | (at_builtin; refine wpList_append_gz (o := ⟨some 84, _, _, _, _, _⟩) (by rfl) (.tmp 78) (.tmp 83) 31 3 rfl _ _ rfl rfl Hr5.out ?_)
                    | (at_builtin; refine wpList_append_g (o := ⟨some 87, _, _, _, _, _⟩) (by rfl) (.tmp 85) (.tmp 86) 31 rfl _ _ rfl rfl Hr6.out ?_)
                    | (at_builtin; refine wpList_append_g (o := ⟨some 90, _, _, _, _, _⟩) (by rfl) (.tmp 88) (.tmp 89) 31 rfl _ _ rfl rfl Hr7.out ?_))
                  go_wp2_with fail
                  go_roundw
                  case rel => exact ⟨k + 1, _, _, A6, c6, A7, c7, by omega, rfl, rfl, by go_num, Lib.hid HNX.out⟩
                  case measure => simp [intOf]; omega
          · obtain rfl : k = ls.length := by omega
            have HAt := Lib.hid ((hK_at HTot.out ls.length (Nat.le_refl _)).fit (by have := HL60.out; omega))
            have HAt2 := Lib.hid (((hK_at HTot.out ls.length (Nat.le_refl _)).crash ks).fit (by have := HL60.out; omega))
            have HRD : Hid (((hK ls ls.length).crash ks).read nA = (wantK ks ls ls.length, if ls.length = 0 then 101 else 0)) := Lib.hid (by
              unfold hK wantK
              rw [List.take_length, hole_crash]
              by_cases h : ls = []
              · subst h; rfl
              · rw [if_neg h, if_neg (fun e => h (List.length_eq_zero_iff.1 e))])
            have HCR := Lib.hid (h2.out.fx.step (S2 := (hK ls ls.length).crash ks) (E := fun e => e = .returned (.tuple #[])) fun O D q1 q2 =>
              fcrash_calls wr O D b _ q1 HAt.out KA kc ks ((rowT_old HK.out h2.out.fx.bel h2.out.old).mono fun i hi => (q2 i hi).2) (by have := HK60.out; omega))
            generalize (hK ls ls.length).crash ks = S2 at *
            generalize wantK ks ls ls.length = wl at *
            clear hk hlt HAt
            have hcase : ∃ (ez : Int) (gt : Bool), (if ls.length = 0 then (101 : Int) else 0) = ez ∧ decide (0 < (ls.length : Int)) = gt ∧ (ez == 0) = gt ∧ decide (0 < ls.length) = gt := by
              by_cases h : ls.length = 0
              · exact ⟨101, false, if_pos h, decide_eq_false (by omega), rfl, decide_eq_false (by omega)⟩
              · exact ⟨0, true, if_neg h, decide_eq_true (by omega), rfl, decide_eq_true (by omega)⟩
            obtain ⟨ez, gt, he, hg1, hg2, hg3⟩ := hcase
            rw [he] at HRD
            clear he
            go_wp2_with fail
            refine HCR.out.mono ?_
            rintro e w5 ⟨rfl, hf5, ho5⟩
            have H5 := Lib.hid (h2.out.keep hf5 ho5)
            have hrd : Calls Try.prog 18 #[fp b, .string nA] w5 fun e w' => ∃ u, e = .returned (.tuple #[u, .int .i64 ez]) ∧ w'.ownsRow w5.heap.size 5 1 u wl.length (Lib.byteCells wl) ∧ Below w5.heap.size w5 w' := by
              obtain ⟨O, D, h⟩ := hf5.at_
              have hq := fread_calls w5 O D b _ h HAt2.out nA
              rw [HRD.out] at hq
              exact hq
            have HRC := Lib.hid hrd
            clear hrd hf5 ho5 HCR h2
            go_wp2_with fail
            refine HRC.out.mono ?_
            rintro e w9 ⟨u9, rfl, hown9, hb9⟩
            obtain ⟨A9, c9, rfl⟩ := own_form hown9
            have HY9 := Lib.hid (byt_of_own hown9).1
            have H9 := Lib.hid (H5.out.below hb9)
            clear hown9 hb9 HRC H5
            go_wp2_with fail
            refine (falive_calls w9).mono ?_
            rintro e w10 ⟨rfl, hb10⟩
            have H10 := Lib.hid (H9.out.below hb10)
            have HBE := Lib.hid (beq_calls A9 Aw c9 cw wl wl w10 (HY9.out.below hb10) (H9.out.below hb10).a.byt)
            rw [decide_eq_true rfl] at HBE
            clear hb10 H9 HY9
            go_wp2_with fail
            refine HBE.out.mono ?_
            rintro e w11 ⟨rfl, hb11⟩
            have HRR := Lib.hid (H10.out.fx.bel.trans (hb11.mono H10.out.fx.bel.size))
            clear hb11 HBE H10
            cases gt
            all_goals
              go_wp2_with fail
              go_ret
              exact ⟨rfl, HRR.out⟩
end Go.Proofs.Ytaeiffpdnlejbaa
