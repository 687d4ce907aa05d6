/-
  The walk of SignOwn.
-/
import Derived.Test.YtpndhffhdllmpaaDoorRowB
import Derived.Test.YtpndhffhdllmpaaDoorAlive
import Derived.Laws.AppendOwnNone
import Derived.Maps.AppendAt
namespace Go.Proofs.YtpndhffhdllmpaaDoor
open Go Go.RowKit

set_option maxHeartbeats 4000000 in
theorem own_calls (A : Option Addr) (c : Nat) (l : List UInt8) (w : World) (hb : Byt w A l) (hA : A = none → c = 0) (hlc : l.length ≤ c) (hm : c ≤ maxLen) (ht : Tabs w) :
    Calls Tryd.prog 8 #[.slice A l.length c] w fun e w' => e = .returned (.bool true) ∧ Below w.heap.size w w' := by
  obtain ⟨i0, hi, hz0, hz1, hz2⟩ := info_parts info8
  unfold maxLen at hm
  by_cases hbig : 1000 < l.length
  · have hcon := Lib.hid (alive_calls w ht)
    clear hb ht
    go_enter Tryd.func8, Tryd.ntmps8
    go_wp2_with fail
    refine hcon.out.mono ?_
    rintro e w' ⟨rfl, h⟩
    go_wp2
    go_ret
    exact ⟨rfl, h⟩
  · go_enter Tryd.func8, Tryd.ntmps8
    go_wp2_with (at_builtin; refine wpList_append_byt _ rfl _ _ 22 rfl w.heap.size i0 Tryd.underlying22 hi hz0 hz1 hz2 (.slice (some ⟨w.heap.size, 0, none⟩) 0 0) [] rfl ?c1 A c l rfl hA (hb.alloc _) (by simp; omega) (by simp) ?_)
    case c1 => exact ⟨rfl, .inr ⟨w.heap.size, 0, #[], rfl, Nat.le_refl _, heap_alloc_new w _, by simp, by unfold maxLen; omega, by simp, by simp [Lib.byteCells]⟩⟩
    intro v1 w1 hown1 hg1 _
    have k1 : Below w.heap.size w w1 := ((Below.refl _ _).alloc (Nat.le_refl _) _).grown hg1 (by simp) (fun k hk => by simp [Value.ownBlock] at hk; omega)
    obtain ⟨A1, c1, rfl⟩ := own_form hown1
    obtain ⟨hB1, _, hlc1, hm1⟩ := byt_of_own (l := [] ++ l) hown1
    simp only [List.nil_append] at hB1 hlc1 hown1 ⊢
    clear hg1 hown1
    go_wp2_with fail
    refine (next_calls A c l _ (hb.below k1) hlc (by unfold maxLen; omega)).mono ?_
    rintro e w2 ⟨rfl, hb2⟩
    have k2 : Below w.heap.size w w2 := k1.trans (hb2.mono k1.size)
    have hB2 := hB1.below hb2
    clear hb2 k1 hB1
    go_wp2_with fail
    refine (runes_calls A c l _ (hb.below k2) (by omega)).mono ?_
    rintro e w3 ⟨v3, rfl, _, hb3⟩
    have k3 : Below w.heap.size w w3 := k2.trans (hb3.mono k2.size)
    have hB3 := hB2.below hb3
    clear hb3 k2 hB2
    go_wp2_with fail
    refine (clean_calls A c l _ (hb.below k3) (by omega)).mono ?_
    rintro e w4 ⟨rfl, hb4⟩
    have k4 : Below w.heap.size w w4 := k3.trans (hb4.mono k3.size)
    have hB4 := hB3.below hb4
    clear hb4 k3 hB3
    go_wp2_with fail
    refine (whole_calls A c l _ (hb.below k4) (tabs_below ht k4)).mono ?_
    rintro e w5 ⟨rfl, hb5⟩
    have k5 : Below w.heap.size w w5 := k4.trans (hb5.mono k4.size)
    have hB5 := hB4.below hb5
    clear hb5 k4 hB4
    go_wp2_with fail
    refine (alive_calls _ (tabs_below ht k5)).mono ?_
    rintro e w6 ⟨rfl, hb6⟩
    have k6 : Below w.heap.size w w6 := k5.trans (hb6.mono k5.size)
    have hB6 := hB5.below hb6
    clear hb6 k5 hB5
    go_wp2_with fail
    refine (Tryd.bytes_Equal_all A A1 l.length c l.length c1 (nums l) (nums l) _ (nums_length l) (nums_length l) (hb.below k6) hB6).mono ?_
    rintro e w7 ⟨rfl, rfl⟩
    rw [bytesOf_nums, beq_self_eq_true]
    go_wp2
    go_ret
    exact ⟨rfl, k6⟩
end Go.Proofs.YtpndhffhdllmpaaDoor
