/-
  The document's own Clean.
-/
import Derived.Test.YtpndhffhdllmpaaDoorRowI
import Derived.Test.YtpndhffhdllmpaaDoorRefRunes
import Derived.Test.YtpndhffhdllmpaaDoorMore
namespace Go.Proofs.YtpndhffhdllmpaaDoor
open Go Go.RowKit

theorem bytesL_valid (r : Nat) (h : Valid r) : bytesL (r : Int) = Lib.encodeRune (r : Int) := by
  unfold Valid at h
  simp only [bytesL]
  rw [if_neg (by omega)]

theorem encL_snoc (rs : List Nat) (k : Nat) (h : k < rs.length) : encL (rs.take (k + 1)) = encL (rs.take k) ++ Lib.encodeRune ((rs.getD k 0 : Nat) : Int) := by
  rw [List.take_succ_eq_append_getElem h]
  have e : rs.getD k 0 = rs[k] := by simp [List.getD, h]
  rw [e]
  unfold encL
  rw [List.flatMap_append, List.flatMap_cons, List.flatMap_nil, List.append_nil]
/-- What stands at a round's head. -/
def CleanAt (w1 : World) (rs : List Nat) (v3 v5 : Value) (wr : World) (k : Nat) : Prop :=
  k ≤ rs.length ∧ v5 = .int .i64 (k : Int) ∧ wr.ownsRow w1.heap.size 5 1 v3 (encL (rs.take k)).length (Lib.byteCells (encL (rs.take k))) ∧ Below w1.heap.size w1 wr

set_option maxHeartbeats 4000000 in
theorem rclean_calls (A : Option Addr) (c : Nat) (l : List UInt8) (w : World) (hb : Byt w A l) (hlc : l.length ≤ c) (hcm : c ≤ maxLen) (hl1 : l.length ≤ 1099511627776) :
    Calls Tryd.prog 19 #[.slice A l.length c] w fun e w' => ∃ v, e = .returned v ∧ w'.ownsRow w.heap.size 5 1 v (cleanL l).length (Lib.byteCells (cleanL l)) ∧ Below w.heap.size w w' := by
  obtain ⟨i0, hi, hz0, hz1, hz2⟩ := info_parts info8
  have hrl := runes_length l
  have hval := Lib.hid (runes_valid l)
  have hcl : Hid (cleanL l = encL (runes l)) := Lib.hid rfl
  have Hcon := Lib.hid (rrunes_calls A c l w hb hlc hcm hl1)
  clear hb hlc hcm
  generalize runes l = rs at *
  go_enter Tryd.func19, Tryd.ntmps19
  go_wp2_with fail
  refine Hcon.out.mono ?_
  rintro e w1 ⟨v1, rfl, hown1, hb1⟩
  obtain ⟨A1, c1, rfl⟩ := own_form hown1
  obtain ⟨hR, _, _, hm1⟩ := rd64_of_own hown1
  have HR := Lib.hid hR
  have Hb1 := Lib.hid hb1
  have hw1 := hb1.size
  clear hown1 hR Hcon hb1
  have hm1' : rs.length ≤ 9223372036854775807 := by omega
  go_wp2_with fail
  go_loopw [3, 5] (fun v3 v5 wr => ∃ k, CleanAt w1 rs v3 v5 wr k) (fun _ v5 _ => rs.length - (intOf v5).toNat)
  case atStart => exact ⟨0, by omega, rfl, World.ownsRow_nil _ _ _ _, Below.refl _ _⟩
  case round =>
    obtain ⟨k, hk, rfl, hown, hbel⟩ := hrel
    have Hown := Lib.hid hown
    clear hown
    by_cases hlt : k < rs.length
    · obtain ⟨g, o, rfl, hg, hc⟩ := (HR.out.below hbel) (by omega)
      have ck := hc k hlt
      have hsn := encL_snoc rs k hlt
      have hle4 := encL_length (rs.take k)
      rw [List.length_take] at hle4
      have hvk : Valid (rs.getD k 0) := by
        have : rs.getD k 0 = rs[k] := by simp [List.getD, hlt]
        rw [this]; exact hval.out _ (List.getElem_mem hlt)
      have hbe := bytesL_valid _ hvk
      have hr4 := Lib.runeCells_le ((rs.getD k 0 : Nat) : Int)
      rw [Lib.runeCells_length] at hr4
      have hvb : rs.getD k 0 ≤ 1114111 := by unfold Valid at hvk; omega
      have Hsn := Lib.hid hsn
      have Hbe := Lib.hid hbe
      clear hc hsn hbe hvk
      generalize encL (rs.take k) = acc at *
      generalize rs.getD k 0 = y at *
      generalize Lib.encodeRune (y : Int) = ey at *
      go_wp2_with fail
      refine (bytes_calls _ _ (by omega) (by omega)).mono ?_
      rw [Hbe.out]
      rintro e w3 ⟨A3, d3, rfl, hB3, hA3, _, _, hb3⟩
      have hbel3 : Below w1.heap.size w1 w3 := hbel.trans (hb3.mono hbel.size)
      have hown3 : w3.ownsRow w1.heap.size 5 1 u3 acc.length (Lib.byteCells acc) := own_below (w := wr) Hown.out hb3
      have Hown3 := Lib.hid hown3
      have hw3 := hbel3.size
      clear hown3 hb3 hbel Hown Hbe
      go_wp2_with (at_builtin; refine wpList_append_byt _ rfl _ _ 22 rfl w1.heap.size i0 Tryd.underlying22 hi hz0 hz1 hz2 u3 acc rfl Hown3.out A3 d3 ey rfl hA3 hB3 (by omega) hw3 ?_)
      intro v' w4 hown4 hgr4 _
      have hb4 : Below w1.heap.size w1 w4 := hbel3.grown hgr4 hw3 (fun k hk => (Hown3.out.lt k hk).1)
      have Hown4 := Lib.hid hown4
      clear hown4 hgr4
      go_wp2
      go_roundw
      case rel => exact ⟨k + 1, by omega, by go_num, by rw [Hsn.out, List.length_append]; exact Hown4.out, hb4⟩
      case measure => simp [intOf]; omega
    · go_wp2
      go_ret
      obtain rfl : k = rs.length := by omega
      have ho := Hown.out
      rw [List.take_length] at ho
      rw [hcl.out]
      exact ⟨_, rfl, own_less ho hw1, Hb1.out.trans (hbel.mono hw1)⟩
end Go.Proofs.YtpndhffhdllmpaaDoor
