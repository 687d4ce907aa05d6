/-
  The walk of WidthAgain.
-/
import Derived.Test.YtfoiihopalcioaaDoorWAlive
namespace Go.Proofs.YtfoiihopalcioaaDoor
open Go Go.RowKit

theorem cutB_length (s : ByteArray) : (cutB s).length ≤ s.size := by
  unfold cutB
  rw [List.length_map, Lib.size_eq]
  exact cutL_length _
theorem cutB_one (s : ByteArray) (k : Nat) (hk : k < (cutB s).length) : cutB ((cutB s).getD k ⟨#[]⟩) = [(cutB s).getD k ⟨#[]⟩] ∧ ((cutB s).getD k ⟨#[]⟩).size ≤ s.size := by
  have hm : (cutB s).getD k ⟨#[]⟩ ∈ cutB s := by
    have : (cutB s).getD k ⟨#[]⟩ = (cutB s)[k] := by simp [List.getD, hk]
    rw [this]; exact List.getElem_mem hk
  generalize (cutB s).getD k ⟨#[]⟩ = x at *
  unfold cutB at hm
  obtain ⟨c, hc, rfl⟩ := List.mem_map.1 hm
  obtain ⟨a, b, d⟩ := cut_mem _ c hc
  refine ⟨?_, by rw [Lib.size_eq, Lib.size_eq]; exact d⟩
  unfold cutB
  rw [show (⟨c.toArray⟩ : ByteArray).data.toList = c from rfl, b]
  rfl

set_option maxHeartbeats 2000000 in
theorem lagain_calls (s : ByteArray) (w : World) (hm : s.size ≤ 9223372036854775807) (hsp : Spans w) :
    Calls Tryd.prog 8 #[.string s] w fun e w' => e = .returned (.bool true) ∧ Below w.heap.size w w' := by
  by_cases hbig : 1000 < s.size
  · have hcon := Lib.hid (walive_calls w hsp)
    clear hsp
    go_enter Tryd.func8, Tryd.ntmps8
    go_wp2_with fail
    refine hcon.out.mono ?_
    rintro e w' ⟨rfl, h⟩
    go_wp2
    go_ret
    exact ⟨rfl, h⟩
  have HC := Lib.hid (cut_calls s (by omega) w hsp)
  have Hone := Lib.hid (cutB_one s)
  have hcl := cutB_length s
  generalize cutB s = ls at *
  go_enter Tryd.func8, Tryd.ntmps8
  go_wp2_with fail
  refine HC.out.mono ?_
  rintro e w1 ⟨v1, rfl, hown1, hb1⟩
  obtain ⟨A1, c1, rfl⟩ := own_form hown1
  obtain ⟨hR, _, _, _⟩ := rdS_of_own hown1
  have HR := Lib.hid hR
  have hs1 := spans_below hsp hb1
  have Hb1 := Lib.hid hb1
  have hz1 := hb1.size
  clear hown1 hR HC hb1 hsp
  go_wp2_with fail
  go_loopw [13] (fun v wr => ∃ k : Nat, k ≤ ls.length ∧ v = .int .i64 (k : Int) ∧ Below w1.heap.size w1 wr) (fun v _ => ls.length - (intOf v).toNat)
  case atStart => exact ⟨0, by omega, rfl, Below.refl _ _⟩
  case round =>
    obtain ⟨k, hk, rfl, hbel⟩ := hrel
    by_cases hlt : k < ls.length
    · obtain ⟨g, o, rfl, _, hc⟩ := (HR.out.below hbel) (by omega)
      have ck := hc k hlt
      obtain ⟨h1, h2⟩ := Hone.out k hlt
      clear hc
      generalize ls.getD k ⟨#[]⟩ = x at *
      have Hc := cut_calls x (by omega) wr (spans_below hs1 hbel)
      rw [h1] at Hc
      have HC := Lib.hid Hc
      clear h1 Hc
      go_wp2_with fail
      refine HC.out.mono ?_
      rintro e w2 ⟨v2, rfl, hown2, hb2⟩
      obtain ⟨A2, c2, rfl⟩ := own_form hown2
      obtain ⟨hR2, _, _, _⟩ := rdS_of_own hown2
      obtain ⟨g2, o2, rfl, _, hc2⟩ := hR2 (by simp)
      have d0 : w2.cell? ⟨g2, o2, none⟩ = some (.string x) := hc2 0 (by simp)
      have k2 : Below w1.heap.size w1 w2 := hbel.trans (hb2.mono hbel.size)
      clear hown2 hR2 hc2 hb2 HC ck
      go_wp2
      go_roundw
      case rel => exact ⟨k + 1, by omega, by go_num, k2⟩
      case measure => simp [intOf]; omega
    · go_wp2_with fail
      refine (walive_calls _ (spans_below hs1 hbel)).mono ?_
      rintro e w3 ⟨rfl, hb3⟩
      go_wp2
      go_ret
      exact ⟨rfl, Hb1.out.trans ((hbel.trans (hb3.mono hbel.size)).mono hz1)⟩
end Go.Proofs.YtfoiihopalcioaaDoor
