/-
  The walk of KeysSigns.
-/
import Derived.Test.YtbkejjpkijjfaaaDoorKAlive
import Derived.Test.YtbkejjpkijjfaaaDoorKRunes
import Derived.Test.YtbkejjpkijjfaaaDoorKSignMath
import Derived.Deep.QuietTactic
import Derived.BigQuiet
namespace Go.Proofs.YtbkejjpkijjfaaaDoor
open Go Go.RowKit
set_option maxRecDepth 100000

/-- A sign that the statement speaks of. -/
def OkR (r : Nat) : Prop := 32 ≤ r ∧ ctlL (r : Int) = false ∧ r ≠ 65533
theorem RdK.below {w w' : World} {A : Option Addr} {ks : List KV} (h : RdK w A ks) (hb : Below w.heap.size w w') : RdK w' A ks := fun hn => by
  obtain ⟨b, e, h1, hc⟩ := h hn
  refine ⟨b, e, Nat.lt_of_lt_of_le h1 hb.size, fun i hi => ?_⟩
  rw [hb.cell (p := ⟨b, i * 2, none⟩) h1, hb.cell (p := ⟨b, i * 2 + 1, none⟩) h1]
  exact hc i hi

set_option maxHeartbeats 4000000 in
theorem ksigns_calls (s : ByteArray) (w : World) (hn : s.size ≤ 9223372036854775807) (hL : Lays w) :
    Calls Tryd.prog 6 #[.string s] w fun e w' => e = .returned (.bool true) ∧ Below w.heap.size w w' := by
  by_cases hbig : 500 < s.size
  · have hcon := Lib.hid (kalive_calls w hL)
    clear hL
    go_enter Tryd.func6, Tryd.ntmps6
    go_wp2_with fail
    refine hcon.out.mono ?_
    rintro e w' ⟨rfl, h⟩
    go_wp2
    go_ret
    exact ⟨rfl, h⟩
  obtain ⟨l, rfl⟩ : ∃ l, s = bs l := ⟨s.data.toList, rfl⟩
  have hsz := bs_size l
  have hll : l.length ≤ 500 := by omega
  have a0 := At4.new w hL
  obtain ⟨c1, w1, hrun1, hown1, hb1⟩ := conv_runes l (by have := runes_length l; omega) (w.alloc (.cells #[.string ⟨#[]⟩, .string ⟨#[]⟩, .int .i64 0, .bool false] 26))
  rw [World.size_alloc] at hrun1 hown1
  have a1 := a0.below hb1
  obtain ⟨hR1, _, _, _⟩ := rd32_of_own hown1
  have hrl := runes_length l
  have hrg := Lib.hid (runes_getD l)
  have Hft := Lib.hid (feed_text l)
  have HR1 := Lib.hid hR1
  have Aw1 := Lib.hid a1
  have HA1 := Lib.hid (kalive_calls w1 a1.lays)
  have hcv := Lib.run_convert_string_bytes (P := Tryd.prog) w1 9 27 5 (bs l) Tryd.underlying9 Tryd.underlying27 Tryd.underlying5
  have hbb := below_bytes w1 5 (bs l)
  have hby := byt_bytes w1 l
  have a2 := a1.below hbb
  have f2 := a2.feed _ (grownCap w1 l.length 0 5) l hby (fun _ ad e => by injection e with e; rw [← e]; have := a1.lt; simp only; omega) (by omega)
  have F2 := Lib.hid f2
  have A2 := Lib.hid a2
  have Hbb := Lib.hid hbb
  have Hcv := Lib.hid hcv
  clear a0 hown1 hb1 a1 hR1 hL hbb hby a2 f2 hcv hbig
  obtain ⟨rs, hrs⟩ : ∃ rs, rs = runes l := ⟨_, rfl⟩
  rw [← hrs] at hrun1 HR1 hrl hrg Hft
  have Hall : Hid ((∀ j, j < rs.length → OkR (rs.getD j 0)) → ∀ r ∈ rs, OkR r) := Lib.hid fun h r hr => by
    obtain ⟨j, hj, rfl⟩ := List.getElem_of_mem hr
    have := h j hj
    simpa [List.getD, hj] using this
  clear hrs
  go_enter Tryd.func6, Tryd.ntmps6
  go_wp2_with fail
  clear hrun1
  go_loop [18] (fun v18 => ∃ k : Nat, k ≤ rs.length ∧ v18 = .int .i64 (k : Int) ∧ Hid (∀ j, j < k → OkR (rs.getD j 0))) (fun v18 => rs.length - (intOf v18).toNat)
  case atStart => exact ⟨0, by omega, rfl, Lib.hid (fun j hj => by omega)⟩
  case round =>
    obtain ⟨k, hk, rfl, hok⟩ := hrel
    by_cases hlt : k < rs.length
    · obtain ⟨gb, o, e0, hgb, hc⟩ := HR1.out (by omega)
      injection e0 with e0
      injection e0 with e01 e02
      subst e01; subst e02
      have ck := hc k hlt
      simp only [Nat.zero_add] at ck
      have hrk := hrg.out k
      have Hst : Hid (OkR (rs.getD k 0) → ∀ j, j < k + 1 → OkR (rs.getD j 0)) := Lib.hid fun h j hj => by
        rcases Nat.lt_succ_iff_lt_or_eq.1 hj with h2 | rfl
        · exact hok.out j h2
        · exact h
      have hctl : ctlL ((rs.getD k 0 : Nat) : Int) = decide (((rs.getD k 0 : Nat) : Int) < 32 ∨ (127 ≤ ((rs.getD k 0 : Nat) : Int) ∧ ((rs.getD k 0 : Nat) : Int) ≤ 159)) := rfl
      have Hctl := Lib.hid hctl
      clear hc hok hctl
      unfold OkR at Hst
      generalize rs.getD k 0 = r at *
      by_cases h32 : r < 32
      · have d1 : decide ((r : Int) < 32) = true := decide_eq_true (by omega)
        go_wp2_with fail
        refine HA1.out.mono ?_
        rintro e w6 ⟨rfl, h6⟩
        go_wp2
        go_ret
        exact ⟨rfl, Aw1.out.bel.trans (h6.mono Aw1.out.bel.size)⟩
      have d1 : decide ((r : Int) < 32) = false := decide_eq_false (by omega)
      by_cases h127 : 127 ≤ r ∧ r ≤ 159
      · have d2 : decide ((r : Int) ≥ 127) = true := decide_eq_true (by omega)
        have d2' : decide (127 ≤ (r : Int)) = true := decide_eq_true (by omega)
        have d3 : decide ((r : Int) ≤ 159) = true := decide_eq_true (by omega)
        clear h127
        go_wp2_with fail
        refine HA1.out.mono ?_
        rintro e w6 ⟨rfl, h6⟩
        go_wp2
        go_ret
        exact ⟨rfl, Aw1.out.bel.trans (h6.mono Aw1.out.bel.size)⟩
      by_cases hw : r = 65533
      · have d4 : ((r : Int) == 65533) = true := by rw [hw]; rfl
        have d2' : decide (127 ≤ (r : Int)) = true := decide_eq_true (by omega)
        have d2 : decide ((r : Int) ≥ 127) = true := decide_eq_true (by omega)
        have d3 : decide ((r : Int) ≤ 159) = false := decide_eq_false (by omega)
        clear h127 hw
        go_wp2_with fail
        refine HA1.out.mono ?_
        rintro e w6 ⟨rfl, h6⟩
        go_wp2
        go_ret
        exact ⟨rfl, Aw1.out.bel.trans (h6.mono Aw1.out.bel.size)⟩
      have d4 : ((r : Int) == 65533) = false := beq_eq_false_iff_ne.2 (by omega)
      have Hst2 := Lib.hid (Hst.out ⟨by omega, by rw [Hctl.out]; exact decide_eq_false (by omega), hw⟩)
      clear Hst Hctl hw
      by_cases h1 : 127 ≤ r
      · have d2 : decide ((r : Int) ≥ 127) = true := decide_eq_true (by omega)
        have d2' : decide (127 ≤ (r : Int)) = true := decide_eq_true (by omega)
        have d3 : decide ((r : Int) ≤ 159) = false := decide_eq_false (by omega)
        clear h127
        go_wp2
        go_round
        case rel => exact ⟨k + 1, by omega, by go_num, Hst2⟩
        case measure => simp [intOf]; omega
      · have d2 : decide ((r : Int) ≥ 127) = false := decide_eq_false (by omega)
        have d2' : decide (127 ≤ (r : Int)) = false := decide_eq_false (by omega)
        clear h127
        go_wp2
        go_round
        case rel => exact ⟨k + 1, by omega, by go_num, Hst2⟩
        case measure => simp [intOf]; omega
    · obtain rfl : k = rs.length := by omega
      have hft := Hft.out (fun r hr => Hall.out hok.out r hr)
      have f2 := F2.out
      rw [hft] at f2
      have F3 := Lib.hid f2
      have hcv := Hcv.out
      clear f2 F2 hft Hft Hall hok HA1 Hcv
      go_wp2_with fail
      refine F3.out.mono ?_
      intro e w3 hS
      obtain ⟨A3, c3, rfl, o3, a3, g3⟩ := hS.at2
      obtain ⟨r3, _, _, _⟩ := rdK_of_own o3
      have hR3 : Rd32 w3 (some ⟨w.heap.size + 1, 0, none⟩) rs := fun hn => by
        obtain ⟨gb, o, e0, hgb, hc⟩ := HR1.out hn
        have h2 := Hbb.out.size
        refine ⟨gb, o, e0, by have := g3.size; omega, fun i hi => ?_⟩
        have hne : gb ≠ w.heap.size := by
          injection e0 with e0
          injection e0 with e01 e02
          omega
        rw [World.cell?_of_block (a := ⟨gb, o + i, none⟩) (g3.block gb (by omega) (fun e => hne (by injection e))), Hbb.out.cell (p := ⟨gb, o + i, none⟩) hgb]
        exact hc i hi
      have hkey : ∀ i, i < rs.length → (rs.map fun (r : Nat) => ((1, Lib.encodeRune (r : Int)) : KV)).getD i (0, []) = (1, Lib.encodeRune ((rs.getD i 0 : Nat) : Int)) := fun i hi => by simp [List.getD, hi]
      have hw3 := waits_calls4 _ _ _ a3.1
      rw [show decide (Dec.zero.w ≠ []) = false by decide] at hw3
      have HR3 := Lib.hid hR3
      have Rk3 := Lib.hid r3
      have Hkey := Lib.hid hkey
      have Aw3 := Lib.hid a3
      clear hS o3 a3 g3 r3 hR3 F3 hcv HR1 Aw1 A2 Hbb hkey
      go_wp2_with fail
      refine hw3.mono ?_
      rintro e w4 ⟨rfl, rfl⟩
      clear hw3
      go_wp2_with fail
      go_loopw [51] (fun v51 wr => ∃ k : Nat, k ≤ rs.length ∧ v51 = .int .i64 (k : Int) ∧ Below w3.heap.size w3 wr) (fun v51 _ => rs.length - (intOf v51).toNat)
      case atStart => exact ⟨0, by omega, rfl, Below.refl _ _⟩
      case round =>
        obtain ⟨k, hk, rfl, hbel⟩ := hrel
        by_cases hlk : k < rs.length
        · obtain ⟨p1, rfl, hp1, q1⟩ := (Rk3.out.below hbel).at_ (by rw [List.length_map]; omega)
          obtain ⟨q10, q11⟩ := q1 k (by rw [List.length_map]; exact hlk)
          rw [Hkey.out k hlk] at q10 q11
          obtain ⟨gb, o, e0, hgb, hc⟩ := HR3.out.below hbel (by omega)
          injection e0 with e0
          injection e0 with e01 e02
          subst e01; subst e02
          have ck := hc k hlk
          simp only [Nat.zero_add] at ck
          have henc := encode_enc ((rs.getD k 0 : Nat) : Int)
          have hB2 := hbel.size
          have x0 := Bx.new wr 44 (.int .i64 1) (.string (bs (Lib.encodeRune ((rs.getD k 0 : Nat) : Int))))
          have HBel := Lib.hid hbel
          clear q1 hc hbel
          generalize Lib.encodeRune ((rs.getD k 0 : Nat) : Int) = er at *
          generalize rs.getD k 0 = r at *
          rw [show ((1 : Nat) : Int) = 1 from rfl] at q10
          go_wp2_with fail
          go_quiet (fail)
          go_wp2
          go_roundw
          case rel => exact ⟨k + 1, by omega, by go_num, bel_drewN (HBel.out.alloc hB2 _) nq⟩
          case measure => simp [intOf]; omega
        · obtain rfl : k = rs.length := by omega
          have a4 := Aw3.out.below hbel
          have hA := kalive_calls wr a4.lays
          have HB := Lib.hid a4.bel
          clear a4 Aw3 HR3 Rk3
          go_wp2_with fail
          refine hA.mono ?_
          rintro e w6 ⟨rfl, h6⟩
          go_wp2
          go_ret
          exact ⟨rfl, HB.out.trans (h6.mono HB.out.size)⟩
end Go.Proofs.YtbkejjpkijjfaaaDoor
