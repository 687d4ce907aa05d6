/-
  keys.letterSequence, sequence and escaped: what the calls come to, in any memory.
-/
import Derived.Test.YtbkejjpkijjfaaaDoorKSeq
import Derived.Deep.RegionWith
import Derived.IntWalk
namespace Go.Proofs.YtbkejjpkijjfaaaDoor
open Go Go.RowKit
set_option maxRecDepth 100000

theorem run_mid (A : Option Addr) (n c i j : Nat) (hij : i ≤ j) (hj : j ≤ c) :
    ∀ W : World, (Instr.slice 27 (.slice A n c) (some (.int .i64 (i : Int))) (some (.int .i64 (j : Int))) none).run Tryd.prog W = .ok (.slice (dropA A c i) (j - i) (c - i)) W := by
  intro W
  have he : Tryd.prog.elem 27 = 5 := by kernel_rfl
  have hu : Tryd.prog.underlying 27 = some (.slice (Tryd.prog.elem 27)) := by rw [he]; exact Tryd.underlying27
  rw [run_slice_lh (w := W) 27 A n c hu .i64 .i64 (i : Int) (j : Int) (by omega) (by omega) (by omega), he, Tryd.sizeOf5]
  simp [sliced, dropA, Result.andThen]
theorem run_upto (A : Option Addr) (n c j : Nat) (hj : j ≤ c) :
    ∀ W : World, (Instr.slice 27 (.slice A n c) none (some (.int .i64 (j : Int))) none).run Tryd.prog W = .ok (.slice (dropA A c 0) j c) W := by
  intro W
  have he : Tryd.prog.elem 27 = 5 := by kernel_rfl
  have hu : Tryd.prog.underlying 27 = some (.slice (Tryd.prog.elem 27)) := by rw [he]; exact Tryd.underlying27
  rw [run_slice_h (w := W) 27 A n c hu .i64 (j : Int) (by omega) (by omega), he, Tryd.sizeOf5]
  simp [sliced, dropA, Result.andThen]

set_option maxHeartbeats 2000000 in
theorem ss3_calls (A : Option Addr) (c : Nat) (b : List UInt8) (w : World) (hb : Byt w A b) (h2 : 2 ≤ b.length) :
    Calls Tryd.prog 57 #[.slice A b.length c] w fun e w' => e = .returned (.tuple #[.int .i64 ((ss3L b).1 : Int), .int .i64 ((ss3L b).2 : Int)]) ∧ w = w' := by
  by_cases hl : b.length = 2
  · have E : ss3L b = (0, 0) := by unfold ss3L; rw [if_pos hl]
    rw [E, hl]
    clear hb E hl h2
    go_enter Tryd.func57, Tryd.ntmps57
    go_wp2
    go_ret2
    exact ⟨rfl, rfl⟩
  · obtain ⟨g, o, rfl, hg, hc⟩ := hb.at_ (by omega)
    have c2 := hc 2 (by omega)
    have hx := (b.getD 2 0).toNat_lt
    have E : ss3L b = if lastB (b.getD 2 0).toNat = false then (0, 2) else (arrowL (b.getD 2 0).toNat, 3) := by unfold ss3L; rw [if_neg hl]
    have hz : ((b.length : Int) == 2) = false := beq_eq_false_iff_ne.2 (by omega)
    have h2' : 2 < b.length := by omega
    rw [E]
    clear hc E hb hl h2
    generalize (b.getD 2 0).toNat = x at *
    generalize b.length = n at *
    have HL := Lib.hid (last_calls x w)
    have HK := Lib.hid (letter_calls x w)
    cases hlb : lastB x with
    | false =>
      rw [show decide (64 ≤ x ∧ x ≤ 126) = false from hlb] at HL
      rw [if_pos rfl]
      clear HK hlb
      go_enter Tryd.func57, Tryd.ntmps57
      go_wp2_with fail
      refine HL.out.mono ?_
      rintro e w' ⟨rfl, rfl⟩
      go_wp2
      go_ret2
      exact ⟨rfl, rfl⟩
    | true =>
      rw [show decide (64 ≤ x ∧ x ≤ 126) = true from hlb] at HL
      rw [if_neg (by simp)]
      clear hlb
      go_enter Tryd.func57, Tryd.ntmps57
      go_wp2_with fail
      refine HL.out.mono ?_
      rintro e w' ⟨rfl, rfl⟩
      go_wp2_with fail
      refine HK.out.mono ?_
      rintro e w' ⟨rfl, rfl⟩
      go_wp2
      go_ret2
      exact ⟨rfl, rfl⟩

theorem csi_mid (b : List UInt8) (k : Nat) (h2 : 2 ≤ k) (hk : k < csiN b) : midB (b.getD k 0) = true := by
  have aux : ∀ (l : List UInt8) (j : Nat), j < (l.takeWhile midB).length → midB (l.getD j 0) = true := by
    intro l
    induction l with
    | nil => intro j hj; simp at hj
    | cons x t ih =>
      intro j hj
      rw [List.takeWhile_cons] at hj
      split at hj
      · rename_i hx
        cases j with
        | zero => simpa using hx
        | succ j => simpa using ih j (by simpa using hj)
      · simp at hj
  have := aux (b.drop 2) (k - 2) (by unfold csiN at hk; omega)
  simpa [List.getD, List.getElem?_drop, show 2 + (k - 2) = k by omega] using this
theorem csi_end (b : List UInt8) (hk : csiN b < b.length) : midB (b.getD (csiN b) 0) = false := by
  have aux : ∀ (l : List UInt8), (l.takeWhile midB).length < l.length → midB (l.getD (l.takeWhile midB).length 0) = false := by
    intro l
    induction l with
    | nil => intro hj; simp at hj
    | cons x t ih =>
      intro hj
      rw [List.takeWhile_cons] at hj ⊢
      split
      · rename_i hx
        rw [if_pos hx] at hj
        have := ih (by simpa using hj)
        simpa using this
      · rename_i hx
        simpa using hx
  have := aux (b.drop 2) (by rw [List.length_drop]; unfold csiN at hk; omega)
  unfold csiN
  simpa [List.getD, List.getElem?_drop] using this
set_option maxHeartbeats 4000000 in
theorem csi_calls (A : Option Addr) (c : Nat) (b : List UInt8) (w : World) (hb : Byt w A b) (h2 : 2 ≤ b.length) (hs : b.length ≤ 1099511627776) (hlc : b.length ≤ c) (hm : c ≤ maxLen) :
    Calls Tryd.prog 56 #[.slice A b.length c] w fun e w' => e = .returned (.tuple #[.int .i64 ((csiL b).1 : Int), .int .i64 ((csiL b).2 : Int)]) ∧ Below w.heap.size w w' := by
  unfold maxLen at hm
  have hn2 := csiN_ge b
  have hnl := csiN_le b h2
  have Hmid := Lib.hid (csi_mid b)
  have Hend := Lib.hid (csi_end b)
  have Hcsi : Hid (csiL b = if csiN b = b.length ∨ b.take (csiN b + 1) = pasteB then (0, 0) else if lastB (b.getD (csiN b) 0).toNat = false then (0, csiN b) else (seqL ((b.take (csiN b)).drop 2) (b.getD (csiN b) 0).toNat, csiN b + 1)) := Lib.hid rfl
  generalize csiN b = n at *
  obtain ⟨g, o, rfl, hg, hc⟩ := hb.at_ (by omega)
  have Hb := Lib.hid hb
  have Hc := Lib.hid hc
  clear hb hc
  go_enter Tryd.func56, Tryd.ntmps56
  go_wp2_with fail
  go_loop [4] (fun v4 => ∃ k : Nat, 2 ≤ k ∧ k ≤ n ∧ v4 = .int .i64 (k : Int)) (fun v4 => b.length - (intOf v4).toNat)
  case atStart => exact ⟨2, by omega, by omega, rfl⟩
  case round =>
    obtain ⟨k, hk2, hkn, rfl⟩ := hrel
    by_cases hlt : k < b.length
    · have ck := Hc.out k hlt
      have hxl := (b.getD k 0).toNat_lt
      by_cases hk : k < n
      · have hx : decide (32 ≤ (b.getD k 0).toNat ∧ (b.getD k 0).toNat ≤ 63) = true := Hmid.out k hk2 hk
        generalize (b.getD k 0).toNat = x at *
        have HB := Lib.hid (between_calls4 x w)
        rw [hx] at HB
        clear hx
        go_wp2_with fail
        refine HB.out.mono ?_
        rintro e w' ⟨rfl, rfl⟩
        go_wp2
        go_round
        case rel => exact ⟨k + 1, by omega, by omega, by go_num⟩
        case measure => simp [intOf]; omega
      · obtain rfl : k = n := by omega
        have hx : decide (32 ≤ (b.getD k 0).toNat ∧ (b.getD k 0).toNat ≤ 63) = false := Hend.out hlt
        have HB := Lib.hid (between_calls4 (b.getD k 0).toNat w)
        rw [hx] at HB
        have hkl : ((k : Int) == (b.length : Int)) = false := beq_eq_false_iff_ne.2 (by omega)
        have hkl2 : (k == b.length) = false := beq_eq_false_iff_ne.2 (by omega)
        obtain ⟨m, hmk⟩ : ∃ m, m = k + 1 := ⟨_, rfl⟩
        have hsum : (k : Int) + 1 = (m : Int) := by omega
        have hup := run_upto (some ⟨g, o, none⟩) b.length c m (by omega)
        have hcv := ((Hb.out.drop c 0 hlc).take m).convert (P := Tryd.prog) c 27 5 9 Tryd.underlying27 Tryd.underlying5 Tryd.underlying9 m (by rw [List.drop_zero, List.length_take]; omega)
        rw [List.drop_zero] at hcv
        have hcs := Hcsi.out
        rw [← hmk] at hcs
        by_cases hp : b.take m = pasteB
        · rw [if_pos (.inr hp)] at hcs
          have Hr := Lib.hid hcs
          have hpb : (b.take m == [27, 91, 50, 48, 48, 126]) = true := beq_iff_eq.2 hp
          clear hx hcs hp hmk Hcsi
          generalize (b.getD k 0).toNat = x at *
          go_wp2_with fail
          refine HB.out.mono ?_
          rintro e w' ⟨rfl, rfl⟩
          go_wp2
          go_ret2
          exact ⟨by rw [Hr.out]; rfl, Below.refl _ _⟩
        · have hpb : (b.take m == [27, 91, 50, 48, 48, 126]) = false := beq_eq_false_iff_ne.2 hp
          rw [if_neg (fun h => h.elim (fun h => by omega) hp)] at hcs
          have HL := Lib.hid (last_calls (b.getD k 0).toNat w)
          cases hlb : lastB (b.getD k 0).toNat with
          | false =>
            rw [show decide (64 ≤ (b.getD k 0).toNat ∧ (b.getD k 0).toNat ≤ 126) = false from hlb] at HL
            rw [if_pos hlb] at hcs
            have Hr := Lib.hid hcs
            clear hx hcs hp hmk Hcsi hlb
            generalize (b.getD k 0).toNat = x at *
            go_wp2_with fail
            refine HB.out.mono ?_
            rintro e w' ⟨rfl, rfl⟩
            go_wp2_with fail
            refine HL.out.mono ?_
            rintro e w' ⟨rfl, rfl⟩
            go_wp2
            go_ret2
            exact ⟨by rw [Hr.out]; rfl, Below.refl _ _⟩
          | true =>
            rw [show decide (64 ≤ (b.getD k 0).toNat ∧ (b.getD k 0).toNat ≤ 126) = true from hlb] at HL
            rw [if_neg (by rw [hlb]; simp)] at hcs
            have Hr := Lib.hid hcs
            have hda : dropA (some ⟨g, o, none⟩) c 2 = some ⟨g, o + 2, none⟩ := by unfold dropA; rw [if_neg (by omega)]; rfl
            have hcv2 := ((Hb.out.drew.drop c 2 hlc).take (k - 2)).convert (P := Tryd.prog) (c - 2) 27 5 9 Tryd.underlying27 Tryd.underlying5 Tryd.underlying9 (k - 2) (by rw [List.length_take, List.length_drop]; omega)
            rw [← List.drop_take, hda] at hcv2
            clear hda
            have HS := Lib.hid (seqKind_calls ((b.take k).drop 2) (b.getD k 0) w.drew (by rw [List.length_drop]; have := List.length_take_le k b; have := List.length_take_le' k b; omega))
            have Hmk := Lib.hid hmk
            clear hx hcs hp hmk Hcsi hlb
            generalize (b.take k).drop 2 = s at *
            generalize (b.getD k 0) = y at *
            go_wp2_with fail
            refine HB.out.mono ?_
            rintro e w' ⟨rfl, rfl⟩
            go_wp2_with fail
            refine HL.out.mono ?_
            rintro e w' ⟨rfl, rfl⟩
            have hwr : IntKind.i64.wrap ((k : Int) + 1) = (m : Int) := by rw [hsum]; exact IntWalk.i64_in _ (by omega)
            go_wp2_with fail
            go_region_with (go_at_call 70; refine HS.out.mono ?_; rintro e w' ⟨rfl, hbel⟩)
            all_goals
              go_wp2_with fail
              go_ret2
              exact ⟨by rw [Hr.out, Hmk.out]; rfl, ⟨hbel.os, hbel.tape, hbel.output, hbel.size, hbel.block⟩⟩
    · have hkl : ((k : Int) == (b.length : Int)) = true := beq_iff_eq.2 (by omega)
      have hkl2 : (k == b.length) = true := beq_iff_eq.2 (by omega)
      have Hr : Hid (csiL b = (0, 0)) := Lib.hid (by rw [Hcsi.out, if_pos (.inl (by omega))])
      clear Hcsi
      go_wp2
      go_ret2
      exact ⟨by rw [Hr.out]; rfl, Below.refl _ _⟩
set_option maxHeartbeats 4000000 in
theorem esc_calls (A : Option Addr) (c : Nat) (b : List UInt8) (w : World) (hb : Byt w A b) (h1 : 1 ≤ b.length) (hs : b.length ≤ 1099511627776) (hlc : b.length ≤ c) (hm : c ≤ maxLen) :
    Calls Tryd.prog 43 #[.slice A b.length c] w fun e w' => e = .returned (.tuple #[.int .i64 ((escL b).1 : Int), .int .i64 ((escL b).2 : Int)]) ∧ Below w.heap.size w w' := by
  by_cases hl : b.length = 1
  · have E : escL b = (0, 0) := by unfold escL; rw [if_pos hl]
    rw [E, hl]
    clear hb E hl h1 hs hlc
    go_enter Tryd.func43, Tryd.ntmps43
    go_wp2
    go_ret2
    exact ⟨rfl, Below.refl _ _⟩
  obtain ⟨g, o, rfl, hg, hc⟩ := hb.at_ (by omega)
  have c1 := hc 1 (by omega)
  have hx := (b.getD 1 0).toNat_lt
  have E : escL b = if (b.getD 1 0).toNat = 91 then csiL b else if (b.getD 1 0).toNat = 79 then ss3L b else if (b.getD 1 0).toNat < 32 ∨ 127 < (b.getD 1 0).toNat then (27, 1) else (metaL (b.getD 1 0).toNat, 2) := by
    unfold escL; rw [if_neg hl]
  have hz : ((b.length : Int) == 1) = false := beq_eq_false_iff_ne.2 (by omega)
  have h2 : 1 < b.length := by omega
  have HC := Lib.hid (csi_calls _ c b w hb (by omega) hs hlc hm)
  have HS := Lib.hid (ss3_calls _ c b w hb (by omega))
  have HM := Lib.hid (meta_calls (b.getD 1 0).toNat w)
  clear hc hb hl h1
  by_cases h91 : (b.getD 1 0).toNat = 91
  · rw [if_pos h91] at E
    rw [E]
    rw [h91] at c1
    clear E h91 HS HM hx
    generalize csiL b = r at *
    generalize b.length = n at *
    go_enter Tryd.func43, Tryd.ntmps43
    go_wp2_with fail
    refine HC.out.mono ?_
    rintro e w' ⟨rfl, hbel⟩
    go_wp2
    go_ret2
    exact ⟨rfl, hbel⟩
  rw [if_neg h91] at E
  have e91 : (((b.getD 1 0).toNat : Int) == 91) = false := beq_eq_false_iff_ne.2 (by omega)
  by_cases h79 : (b.getD 1 0).toNat = 79
  · rw [if_pos h79] at E
    rw [E]
    rw [h79] at c1
    clear E h91 e91 h79 HC HM hx
    generalize ss3L b = r at *
    generalize b.length = n at *
    go_enter Tryd.func43, Tryd.ntmps43
    go_wp2_with fail
    refine HS.out.mono ?_
    rintro e w' ⟨rfl, rfl⟩
    go_wp2
    go_ret2
    exact ⟨rfl, Below.refl _ _⟩
  rw [if_neg h79] at E
  have e79 : (((b.getD 1 0).toNat : Int) == 79) = false := beq_eq_false_iff_ne.2 (by omega)
  by_cases hlo : (b.getD 1 0).toNat < 32
  · rw [if_pos (.inl hlo)] at E
    rw [E]
    have d : decide (((b.getD 1 0).toNat : Int) < 32) = true := decide_eq_true (by omega)
    clear E h91 h79 HC HM HS
    generalize (b.getD 1 0).toNat = x at *
    generalize b.length = n at *
    go_enter Tryd.func43, Tryd.ntmps43
    go_wp2
    go_ret2
    exact ⟨rfl, Below.refl _ _⟩
  have d : decide (((b.getD 1 0).toNat : Int) < 32) = false := decide_eq_false (by omega)
  by_cases hhi : 127 < (b.getD 1 0).toNat
  · rw [if_pos (.inr hhi)] at E
    rw [E]
    have d2 : decide (((b.getD 1 0).toNat : Int) > 127) = true := decide_eq_true (by omega)
    have d3 : decide (127 < ((b.getD 1 0).toNat : Int)) = true := decide_eq_true (by omega)
    clear E h91 h79 HC HM HS
    generalize (b.getD 1 0).toNat = x at *
    generalize b.length = n at *
    go_enter Tryd.func43, Tryd.ntmps43
    go_wp2
    go_ret2
    exact ⟨rfl, Below.refl _ _⟩
  rw [if_neg (fun h => h.elim hlo hhi)] at E
  rw [E]
  have d2 : decide (((b.getD 1 0).toNat : Int) > 127) = false := decide_eq_false (by omega)
  have d3 : decide (127 < ((b.getD 1 0).toNat : Int)) = false := decide_eq_false (by omega)
  clear E h91 h79 HC HS
  generalize (b.getD 1 0).toNat = x at *
  generalize b.length = n at *
  go_enter Tryd.func43, Tryd.ntmps43
  go_wp2_with fail
  refine HM.out.mono ?_
  rintro e w' ⟨rfl, rfl⟩
  go_wp2
  go_ret2
  exact ⟨rfl, Below.refl _ _⟩
end Go.Proofs.YtbkejjpkijjfaaaDoor
