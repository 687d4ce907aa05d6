/-
  The walk of FileFaults (layer 10).
-/
import Derived.Test.YtaeiffpdnlejbaaPb25
namespace Go.Proofs.Ytaeiffpdnlejbaa
open Go Go.RowKit
set_option maxRecDepth 100000

/-- What the k-th write is, and those of the first k that do not fault. -/
def xF (l0 l1 : List UInt8) (k : Nat) : List UInt8 := if k % 2 = 1 then l1 else l0
def flF (l0 l1 : List UInt8) (n : Nat) : Nat → List (List UInt8)
  | 0 => []
  | k + 1 => if k = n then flF l0 l1 n k else flF l0 l1 n k ++ [xF l0 l1 k]
theorem flF_len (l0 l1 : List UInt8) (n : Nat) : ∀ k, (flF l0 l1 n k).length = if n < k then k - 1 else k
  | 0 => by simp [flF]
  | k + 1 => by
    unfold flF
    have ih := flF_len l0 l1 n k
    split
    · rename_i h; subst h; rw [ih]; simp
    · rename_i h
      rw [List.length_append, ih, List.length_singleton]
      split <;> split <;> omega
theorem flF_flat (l0 l1 : List UInt8) (n : Nat) (h0 : l0.length ≤ 500) (h1 : l1.length ≤ 500) : ∀ k, (flF l0 l1 n k).flatten.length ≤ k * 500
  | 0 => by simp [flF]
  | k + 1 => by
    unfold flF
    have ih := flF_flat l0 l1 n h0 h1 k
    split
    · omega
    · rw [List.flatten_append, List.length_append]
      have : (xF l0 l1 k).length ≤ 500 := by unfold xF; split <;> omega
      rw [show [xF l0 l1 k].flatten = xF l0 l1 k by simp]
      omega
def zF (n : Nat) (k : Nat) : Int := if k ≤ n then (n : Int) - (k : Int) else -1
theorem write_F (l0 l1 : List UInt8) (n k : Nat) (h0 : l0.length ≤ 500) (h1 : l1.length ≤ 500) (hk : k ≤ 30) : (holeS (flF l0 l1 n k) k (zF n k)).write nA (xF l0 l1 k) = (holeS (flF l0 l1 n (k + 1)) (k + 1) (zF n (k + 1)), if k = n then 102 else 0) := by
  have hl := flF_flat l0 l1 n h0 h1 k
  have hx : (xF l0 l1 k).length ≤ 500 := by unfold xF; split <;> omega
  rw [hole_write _ _ _ _ (by omega)]
  by_cases e : k = n
  · subst e
    have hz : zF k k = 0 := by unfold zF; rw [if_pos (Nat.le_refl _)]; omega
    have hz2 : zF k (k + 1) = -1 := by unfold zF; rw [if_neg (by omega)]
    have : flF l0 l1 k (k + 1) = flF l0 l1 k k := by rw [flF, if_pos rfl]
    rw [hz, hz2, if_pos rfl, if_pos rfl, this]
  · have he : flF l0 l1 n (k + 1) = flF l0 l1 n k ++ [xF l0 l1 k] := by rw [flF, if_neg e]
    rw [he, if_neg e]
    by_cases hkn : k < n
    · have hz : zF n k = (n : Int) - (k : Int) := by unfold zF; rw [if_pos (by omega)]
      have hz2 : zF n (k + 1) = (n : Int) - (k : Int) - 1 := by unfold zF; rw [if_pos (by omega)]; omega
      rw [hz, hz2, if_neg (by omega), if_pos (by omega)]
    · have hz : zF n k = -1 := by unfold zF; rw [if_neg (by omega)]
      have hz2 : zF n (k + 1) = -1 := by unfold zF; rw [if_neg (by omega)]
      rw [hz, hz2, if_neg (by omega), if_neg (by omega)]
theorem fault_new (n : Nat) : FS.new.fault_ (n : Int) = holeS (flF [] [] n 0) 0 (zF n 0) := by
  unfold FS.fault_ FS.new holeS zF flF
  simp
  omega
theorem fault_new2 (l0 l1 : List UInt8) (n : Nat) : FS.new.fault_ (n : Int) = holeS (flF l0 l1 n 0) 0 (zF n 0) := fault_new n
theorem at_F (l0 l1 : List UInt8) (n : Nat) (h0 : l0.length ≤ 500) (h1 : l1.length ≤ 500) (hn : n ≤ 20) : ∀ k, k ≤ 24 → (holeS (flF l0 l1 n k) k (zF n k)).At k
  | 0, _ => by
    rw [← fault_new2]
    exact ⟨FS.At.new.ok.fault_ _, Nat.le_refl _, Nat.le_refl _, fun _ h => (by cases h), (by show (-1 : Int) ≤ _; omega), by show max (n : Int) (-1) ≤ _; omega⟩
  | k + 1, hk => by
    have h := (at_F l0 l1 n h0 h1 hn k (by omega)).write nA (xF l0 l1 k)
    rw [write_F l0 l1 n k h0 h1 (by omega)] at h
    exact h
/-- All that was written. -/
def ffF (l0 l1 : List UInt8) (n k : Nat) : List UInt8 := (flF l0 l1 n k).flatten
theorem ffF_eq (l0 l1 : List UInt8) (n : Nat) : ffF l0 l1 n (n + 1) = ffF l0 l1 n n := by
  unfold ffF
  rw [flF, if_pos rfl]
theorem ffF_ne (l0 l1 : List UInt8) (n k : Nat) (h : k ≠ n) : ffF l0 l1 n (k + 1) = ffF l0 l1 n k ++ xF l0 l1 k := by
  unfold ffF
  rw [flF, if_neg h]
  simp
theorem ffF_len (l0 l1 : List UInt8) (n : Nat) (h0 : l0.length ≤ 500) (h1 : l1.length ≤ 500) (k : Nat) : (ffF l0 l1 n k).length ≤ k * 500 := flF_flat l0 l1 n h0 h1 k
set_option maxHeartbeats 8000000 in
theorem ffaults_law (A0 : Option Addr) (c0 : Nat) (l0 : List UInt8) (A1 : Option Addr) (c1 : Nat) (l1 : List UInt8) (n : Int) (w : World) (hB0 : Byt w A0 l0) (hA0 : A0 = none → c0 = 0) (hl0 : l0.length ≤ 9223372036854775807) (hB1 : Byt w A1 l1) (hA1 : A1 = none → c1 = 0) (hl1 : l1.length ≤ 9223372036854775807)
    (hn1 : -9223372036854775808 ≤ n) (hn2 : n ≤ 9223372036854775807) :
    Calls Try.prog 8 #[.slice A0 l0.length c0, .slice A1 l1.length c1, .int .i64 n] w fun e w' => e = .returned (.bool true) ∧ Below w.heap.size w w' := by
  have HB0 := Lib.hid hB0
  have HB1 := Lib.hid hB1
  have HA0 := Lib.hid hA0
  have HA1 := Lib.hid hA1
  clear hB0 hB1 hA0 hA1
  have halv : ∀ w1, Below w.heap.size w w1 → Hid (Calls Try.prog 11 #[] w1 fun e w' => e = .returned (.bool true) ∧ Below w.heap.size w w') := fun w1 hb => Lib.hid ((falive_calls w1).mono (by rintro e w' ⟨h1, h2⟩; exact ⟨h1, hb.trans (h2.mono hb.size)⟩))
  have HAL := Lib.hid halv
  clear halv
  by_cases hbad : 500 < l0.length ∨ 500 < l1.length ∨ n < 0 ∨ 20 < n
  · rcases (show (500 < l0.length) ∨ (¬ 500 < l0.length ∧ 500 < l1.length) ∨ (¬ 500 < l0.length ∧ ¬ 500 < l1.length ∧ n < 0) ∨ (¬ 500 < l0.length ∧ ¬ 500 < l1.length ∧ ¬ n < 0 ∧ 20 < n) by omega) with h | ⟨h, h'⟩ | ⟨h, h', h''⟩ | ⟨h, h', h'', h'''⟩
    · have d0 : decide (500 < (l0.length : Int)) = true := decide_eq_true (by omega)
      clear hbad h hl0 hl1 hn1 hn2
      go_enter Try.func8, Try.ntmps8
      go_wp2_with fail
      refine (fnew_calls w).mono ?_
      rintro e w1 ⟨b, rfl, hin⟩
      have HV := HAL.out w1 hin.bel
      clear hin
      go_wp2_with fail
      refine HV.out.mono ?_
      rintro e w2 ⟨rfl, hb⟩
      have HR := Lib.hid hb
      clear hb HV
      go_wp2_with fail
      go_ret
      exact ⟨rfl, HR.out⟩
    · have d0 : decide (500 < (l0.length : Int)) = false := decide_eq_false (by omega)
      have d1 : decide (500 < (l1.length : Int)) = true := decide_eq_true (by omega)
      clear hbad h h' hl0 hl1 hn1 hn2
      go_enter Try.func8, Try.ntmps8
      go_wp2_with fail
      refine (fnew_calls w).mono ?_
      rintro e w1 ⟨b, rfl, hin⟩
      have HV := HAL.out w1 hin.bel
      clear hin
      go_wp2_with fail
      refine HV.out.mono ?_
      rintro e w2 ⟨rfl, hb⟩
      have HR := Lib.hid hb
      clear hb HV
      go_wp2_with fail
      go_ret
      exact ⟨rfl, HR.out⟩
    · have d0 : decide (500 < (l0.length : Int)) = false := decide_eq_false (by omega)
      have d1 : decide (500 < (l1.length : Int)) = false := decide_eq_false (by omega)
      have d2 : decide (n < 0) = true := decide_eq_true h''
      clear hbad h h' hl0 hl1 hn1 hn2 h''
      go_enter Try.func8, Try.ntmps8
      go_wp2_with fail
      refine (fnew_calls w).mono ?_
      rintro e w1 ⟨b, rfl, hin⟩
      have HV := HAL.out w1 hin.bel
      clear hin
      go_wp2_with fail
      refine HV.out.mono ?_
      rintro e w2 ⟨rfl, hb⟩
      have HR := Lib.hid hb
      clear hb HV
      go_wp2_with fail
      go_ret
      exact ⟨rfl, HR.out⟩
    · have d0 : decide (500 < (l0.length : Int)) = false := decide_eq_false (by omega)
      have d1 : decide (500 < (l1.length : Int)) = false := decide_eq_false (by omega)
      have d2 : decide (n < 0) = false := decide_eq_false h''
      have d3 : decide (20 < n) = true := decide_eq_true h'''
      clear hbad h h' hl0 hl1 hn1 hn2 h'' h'''
      go_enter Try.func8, Try.ntmps8
      go_wp2_with fail
      refine (fnew_calls w).mono ?_
      rintro e w1 ⟨b, rfl, hin⟩
      have HV := HAL.out w1 hin.bel
      clear hin
      go_wp2_with fail
      refine HV.out.mono ?_
      rintro e w2 ⟨rfl, hb⟩
      have HR := Lib.hid hb
      clear hb HV
      go_wp2_with fail
      go_ret
      exact ⟨rfl, HR.out⟩
  · obtain ⟨N, rfl⟩ : ∃ N : Nat, n = (N : Int) := ⟨n.toNat, by omega⟩
    have hN : N ≤ 20 := by omega
    have hs0 : l0.length ≤ 500 := by omega
    have hs1 : l1.length ≤ 500 := by omega
    have d0 : decide (500 < (l0.length : Int)) = false := decide_eq_false (by omega)
    have d1 : decide (500 < (l1.length : Int)) = false := decide_eq_false (by omega)
    have d2 : decide ((N : Int) < 0) = false := decide_eq_false (by omega)
    have d3 : decide (20 < (N : Int)) = false := decide_eq_false (by omega)
    have hw3 : IntKind.i64.wrap ((N : Int) + 3) = (N : Int) + 3 := IntWalk.i64_in _ (by omega)
    clear hbad hl0 hl1
    go_enter Try.func8, Try.ntmps8
    go_wp2_with fail
    refine (fnew_calls w).mono ?_
    rintro e w1 ⟨b, rfl, hin⟩
    have HI := Lib.hid hin
    clear hin
    go_wp2_with fail
    refine (in_fault HI.out (FS.At.new.fit (by omega)) (N : Int) hn1 hn2).mono ?_
    rintro e w2 ⟨rfl, hin⟩
    rw [fault_new2 l0 l1 N] at hin
    have HF2 := Lib.hid (FX.of_in hin)
    clear hin HI hn1 hn2
    go_wp2_with fail
    clear d0 d1 d2 d3
    go_loopw [8, 45] (fun v8 v45 wr => ∃ (k : Nat) (X Y : Nat → Prop) (A8 : Option Addr) (c8 : Nat), k ≤ N + 3 ∧ v8 = .slice A8 (ffF l0 l1 N k).length c8 ∧ v45 = .int .i64 (k : Int) ∧ Hid (FX w wr X Y b (holeS (flF l0 l1 N k) k (zF N k))) ∧ Hid (OwnR w wr X Y (.slice A8 (ffF l0 l1 N k).length c8) (ffF l0 l1 N k)) ∧ Hid (∀ i, i < w.heap.size → X i))
      (fun _ v45 _ => N + 3 - (intOf v45).toNat)
    case atStart => exact ⟨0, _, _, none, 0, by omega, rfl, rfl, HF2, Lib.hid (OwnR.nil _ _ _ _), Lib.hid (fun i hi => hi)⟩
    case round =>
      obtain ⟨k, X, Y, A8, c8, hk, rfl, rfl, hfx, how, hold⟩ := hrel
      by_cases hlt : k < N + 3
      · have hkl : (k : Int) < (N : Int) + 3 := by omega
        have HAt := Lib.hid ((at_F l0 l1 N hs0 hs1 hN k (by omega)).fit (by omega))
        have HWr := Lib.hid (write_F l0 l1 N k hs0 hs1 (by omega))
        have hfl := ffF_len l0 l1 N hs0 hs1 k
        have hpar : ∃ (Ax : Option Addr) (cx : Nat), (if k % 2 = 1 then (Value.slice A1 l1.length c1) else (Value.slice A0 l0.length c0)) = .slice Ax (xF l0 l1 k).length cx ∧ Byt w Ax (xF l0 l1 k) ∧ (Ax = none → cx = 0) := by
          unfold xF
          by_cases h : k % 2 = 1
          · simp only [if_pos h]
            exact ⟨A1, c1, rfl, HB1.out, HA1.out⟩
          · simp only [if_neg h]
            exact ⟨A0, c0, rfl, HB0.out, HA0.out⟩
        obtain ⟨Ax, cx, hax, hbx, hcx⟩ := hpar
        have hxl : (xF l0 l1 k).length ≤ 500 := by unfold xF; split <;> omega
        have HW := Lib.hid (hfx.out.step (S2 := holeS (flF l0 l1 N (k + 1)) (k + 1) (zF N (k + 1))) (E := fun e => e = .returned (.int .i64 (if k = N then 102 else 0))) fun O D q1 q2 => by
          have := fwrite_calls wr O D b _ q1 HAt.out nA Ax cx (xF l0 l1 k) ((byR_old hbx hfx.out.bel hold.out).mono fun i hi => (q2 i hi).2) hcx (by omega)
          rw [HWr.out] at this
          exact this)
        have HBX := Lib.hid (And.intro hbx hcx)
        have HXL : Hid ((ffF l0 l1 N k).length + (xF l0 l1 k).length ≤ 1099511627776) := Lib.hid (by omega)
        have HAX := Lib.hid hax
        have hk30 : k ≤ 30 := by omega
        clear hbx hcx hxl hfl hax hfx HAt HWr hs0 hs1 hN
        by_cases hp : k % 2 = 1
        · skip
          have htm : Int.tmod (k : Int) 2 = 1 := by have h1 := (Int.ofNat_tmod k 2).symm; rw [show ((2 : Nat) : Int) = 2 from rfl] at h1; rw [h1]; omega
          have hem : (k : Int) % 2 = 1 := by omega
          rw [if_pos hp] at HAX
          rw [← HAX.out] at HW
          clear hp
          by_cases hkn : k = N
          · obtain rfl : N = k := hkn.symm
            rw [if_pos rfl] at HW
            have HFE := Lib.hid (ffF_eq l0 l1 N)
            clear hkn
            go_wp2_with fail
            refine HW.out.mono ?_
            rintro e w2 ⟨rfl, hf2, ho2⟩
            clear htm hem
            have HNX := Lib.hid (And.intro hf2 (how.out.keep ho2 (fun _ h => h)))
            clear hf2 ho2 HW how HBX
            go_wp2_with fail
            go_roundw
            case rel => exact ⟨N + 1, X, Y, A8, c8, by omega, by rw [HFE.out], by go_num, Lib.hid HNX.out.1, Lib.hid (by rw [HFE.out]; exact HNX.out.2), hold⟩
            case measure => simp [intOf] <;> omega
          · rw [if_neg hkn] at HW
            have HFE := Lib.hid (ffF_ne l0 l1 N k hkn)
            have q1 : ((k : Int) == (N : Int)) = false := beq_eq_false_iff_ne.2 (by omega)
            have q2 : ((k : Int) != (N : Int)) = true := by simpa using q1
            have q3 : ¬ (k : Int) = (N : Int) := by omega
            clear hkn
            go_wp2_with fail
            refine HW.out.mono ?_
            rintro e w2 ⟨rfl, hf2, ho2⟩
            clear htm hem
            obtain ⟨A9, c9, w9, hrun, hown, hfx9, _, _⟩ := (how.out.keep ho2 (fun _ h => h)).app hf2 Ax cx (xF l0 l1 k) HBX.out.2 (HBX.out.1.below hf2.bel) HXL.out
            rw [← HAX.out] at hrun
            rw [← HFE.out] at hrun hown
            have HR9 := Lib.hid hrun
            have HNX := Lib.hid (And.intro hfx9 hown)
            clear hf2 ho2 HW how HBX hrun hown hfx9 HXL HFE
            go_wp2_with (at_builtin; refine wpList_append_g (by rfl) (.tmp 74) (.tmp 75) 31 rfl _ _ rfl rfl HR9.out ?_)
            go_wp2_with fail
            go_roundw
            case rel => exact ⟨k + 1, _, _, A9, c9, by omega, rfl, by go_num, Lib.hid HNX.out.1, Lib.hid HNX.out.2, Lib.hid (fun i hi => .inl (hold.out i hi))⟩
            case measure => simp [intOf] <;> omega
        · skip
          have htm : Int.tmod (k : Int) 2 = 0 := by have h1 := (Int.ofNat_tmod k 2).symm; rw [show ((2 : Nat) : Int) = 2 from rfl] at h1; rw [h1]; omega
          have hem : (k : Int) % 2 = 0 := by omega
          rw [if_neg hp] at HAX
          rw [← HAX.out] at HW
          clear hp
          by_cases hkn : k = N
          · obtain rfl : N = k := hkn.symm
            rw [if_pos rfl] at HW
            have HFE := Lib.hid (ffF_eq l0 l1 N)
            clear hkn
            go_wp2_with fail
            refine HW.out.mono ?_
            rintro e w2 ⟨rfl, hf2, ho2⟩
            clear htm hem
            have HNX := Lib.hid (And.intro hf2 (how.out.keep ho2 (fun _ h => h)))
            clear hf2 ho2 HW how HBX
            go_wp2_with fail
            go_roundw
            case rel => exact ⟨N + 1, X, Y, A8, c8, by omega, by rw [HFE.out], by go_num, Lib.hid HNX.out.1, Lib.hid (by rw [HFE.out]; exact HNX.out.2), hold⟩
            case measure => simp [intOf] <;> omega
          · rw [if_neg hkn] at HW
            have HFE := Lib.hid (ffF_ne l0 l1 N k hkn)
            have q1 : ((k : Int) == (N : Int)) = false := beq_eq_false_iff_ne.2 (by omega)
            have q2 : ((k : Int) != (N : Int)) = true := by simpa using q1
            have q3 : ¬ (k : Int) = (N : Int) := by omega
            clear hkn
            go_wp2_with fail
            refine HW.out.mono ?_
            rintro e w2 ⟨rfl, hf2, ho2⟩
            clear htm hem
            obtain ⟨A9, c9, w9, hrun, hown, hfx9, _, _⟩ := (how.out.keep ho2 (fun _ h => h)).app hf2 Ax cx (xF l0 l1 k) HBX.out.2 (HBX.out.1.below hf2.bel) HXL.out
            rw [← HAX.out] at hrun
            rw [← HFE.out] at hrun hown
            have HR9 := Lib.hid hrun
            have HNX := Lib.hid (And.intro hfx9 hown)
            clear hf2 ho2 HW how HBX hrun hown hfx9 HXL HFE
            go_wp2_with (at_builtin; refine wpList_append_g (by rfl) (.tmp 74) (.tmp 75) 31 rfl _ _ rfl rfl HR9.out ?_)
            go_wp2_with fail
            go_roundw
            case rel => exact ⟨k + 1, _, _, A9, c9, by omega, rfl, by go_num, Lib.hid HNX.out.1, Lib.hid HNX.out.2, Lib.hid (fun i hi => .inl (hold.out i hi))⟩
            case measure => simp [intOf] <;> omega
      · obtain rfl : k = N + 3 := by omega
        have HAt := Lib.hid ((at_F l0 l1 N hs0 hs1 hN (N + 3) (by omega)).fit (by omega))
        have hll : (flF l0 l1 N (N + 3)).length = N + 2 := by rw [flF_len, if_pos (by omega)]; rfl
        have HRD := Lib.hid (hole_read (flF l0 l1 N (N + 3)) (N + 3) (zF N (N + 3)) (fun e => by rw [e] at hll; simp at hll))
        have HPD : Hid ((holeS (flF l0 l1 N (N + 3)) (N + 3) (zF N (N + 3))).pend = N + 2) := Lib.hid (by rw [hole_pend, hll])
        have hoo : (holeS (flF l0 l1 N (N + 3)) (N + 3) (zF N (N + 3))).ops = N + 3 := rfl
        have HOO := Lib.hid hoo
        have hw2 : IntKind.i64.wrap ((N : Int) + 2) = (N : Int) + 2 := IntWalk.i64_in _ (by omega)
        have hflt : (flF l0 l1 N (N + 3)).flatten = ffF l0 l1 N (N + 3) := rfl
        rw [hflt] at HRD
        clear hs0 hs1 hll hoo hflt
        generalize holeS (flF l0 l1 N (N + 3)) (N + 3) (zF N (N + 3)) = S at *
        generalize ffF l0 l1 N (N + 3) = wl at *
        have hrd : Calls Try.prog 18 #[fp b, .string nA] wr fun e w' => ∃ u, e = .returned (.tuple #[u, .int .i64 0]) ∧ w'.ownsRow wr.heap.size 5 1 u wl.length (Lib.byteCells wl) ∧ Below wr.heap.size wr w' := by
          obtain ⟨O, D, h⟩ := hfx.out.at_
          have hq := fread_calls wr O D b _ h HAt.out nA
          rw [HRD.out] at hq
          exact hq
        have HRC := Lib.hid hrd
        clear hrd
        go_wp2_with fail
        refine HRC.out.mono ?_
        rintro e w9 ⟨u9, rfl, hown9, hb9⟩
        obtain ⟨A9, c9, rfl⟩ := own_form hown9
        have HY9 := Lib.hid (byt_of_own hown9).1
        have HF9 := Lib.hid (hfx.out.below hb9)
        have HW9 := Lib.hid (how.out.below hb9)
        have HV := HAL.out w9 HF9.out.bel
        clear hown9 hb9 hfx how HRC
        go_wp2_with fail
        refine (falive_calls w9).mono ?_
        rintro e w10 ⟨rfl, hb10⟩
        have HF10 := Lib.hid (HF9.out.below hb10)
        have HBE := Lib.hid (beq_calls A9 A8 c9 c8 wl wl w10 (HY9.out.below hb10) (HW9.out.below hb10).byt)
        rw [decide_eq_true rfl] at HBE
        clear hb10 HF9 HW9 HY9 HV
        go_wp2_with fail
        refine HBE.out.mono ?_
        rintro e w11 ⟨rfl, hb11⟩
        have HF11 := Lib.hid (HF10.out.below hb11)
        have hop : Calls Try.prog 27 #[fp b] w11 fun e w' => e = .returned (.int .i64 ((N : Int) + 3)) ∧ Below w11.heap.size w11 w' := by
          obtain ⟨O, D, h⟩ := HF11.out.at_
          have hq := fops_calls w11 O D b _ h HAt.out
          rw [HOO.out] at hq
          exact hq
        have HOP := Lib.hid hop
        clear hop hb11 HBE HF10
        go_wp2_with fail
        refine HOP.out.mono ?_
        rintro e w12 ⟨rfl, hb12⟩
        have HF12 := Lib.hid (HF11.out.below hb12)
        have hpn : Calls Try.prog 23 #[fp b] w12 fun e w' => e = .returned (.int .i64 ((N : Int) + 2)) ∧ Below w12.heap.size w12 w' := by
          obtain ⟨O, D, h⟩ := HF12.out.at_
          have hq := fpending_calls w12 O D b _ h HAt.out
          rw [HPD.out] at hq
          exact hq
        have HPN := Lib.hid hpn
        clear hpn hb12 HOP HF11
        go_wp2_with fail
        refine HPN.out.mono ?_
        rintro e w13 ⟨rfl, hb13⟩
        have HR := Lib.hid (HF12.out.bel.trans (hb13.mono HF12.out.bel.size))
        clear hb13 HPN HF12
        go_wp2_with fail
        go_ret
        exact ⟨rfl, HR.out⟩
end Go.Proofs.Ytaeiffpdnlejbaa
