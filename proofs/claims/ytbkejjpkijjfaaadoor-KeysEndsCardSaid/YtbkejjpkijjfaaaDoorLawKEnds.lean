/-
  The walk of KeysEnds.
-/
import Derived.Test.YtbkejjpkijjfaaaDoorKAlive
import Derived.Test.YtbkejjpkijjfaaaDoorWaitMath
namespace Go.Proofs.YtbkejjpkijjfaaaDoor
open Go Go.RowKit
set_option maxRecDepth 100000

set_option maxHeartbeats 4000000 in
theorem kends_calls (A : Option Addr) (c : Nat) (b : List UInt8) (w : World) (hb : Byt w A b) (hL : Lays w) (hn : b.length ≤ 9223372036854775807) :
    Calls Tryd.prog 5 #[.slice A b.length c] w fun e w' => e = .returned (.bool true) ∧ Below w.heap.size w w' := by
  by_cases hbig : 1500 < b.length
  · have hcon := Lib.hid (kalive_calls w hL)
    clear hb hL
    generalize b.length = n at *
    go_enter Tryd.func5, Tryd.ntmps5
    go_wp2_with fail
    refine hcon.out.mono ?_
    rintro e w' ⟨rfl, h⟩
    go_wp2
    go_ret
    exact ⟨rfl, h⟩
  have F1 := Lib.hid ((At4.new w hL).feedArg c hb (by omega))
  have htt := two_ticks (feedD Dec.zero b).2
  have Htt := Lib.hid htt
  have Hb := Lib.hid hb
  have HL := Lib.hid hL
  clear hb htt hL
  generalize feedD Dec.zero b = r at *
  generalize b.length = n at *
  go_enter Tryd.func5, Tryd.ntmps5
  go_wp2_with fail
  refine F1.out.mono ?_
  intro e w1 hS
  obtain ⟨A1, c1, rfl, o1, a1, g1⟩ := hS.at_ (by simp)
  have Aw1 := Lib.hid a1
  clear hS o1 a1 g1 F1
  go_wp2_with fail
  refine Aw1.out.tick.mono ?_
  intro e w2 hS
  obtain ⟨A2, c2, rfl, o2, a2, g2⟩ := hS.at_ Aw1.out.lt
  have Aw2 := Lib.hid a2
  clear hS o2 a2 g2 Aw1
  go_wp2_with fail
  refine Aw2.out.tick.mono ?_
  intro e w3 hS
  obtain ⟨A3, c3, rfl, o3, a3, g3⟩ := hS.at_ Aw2.out.lt
  have Aw3 := Lib.hid a3
  clear hS o3 a3 g3 Aw2
  go_wp2_with fail
  refine (kalive_calls w3 Aw3.out.lays).mono ?_
  rintro e w4 ⟨rfl, hb4⟩
  have Aw4 := Lib.hid (Aw3.out.below hb4)
  clear hb4 Aw3
  have hw := waits_calls4 _ _ _ Aw4.out.1
  have hp := pasting_calls _ _ _ Aw4.out.1
  have ht := Aw4.out.tick
  rcases Htt.out.1 with h0 | h0
  · rw [h0, show decide (([] : List UInt8) ≠ []) = false by decide] at hw
    rw [h0, show decide ([] = pasteB) = false by decide] at hp
    clear h0
    go_wp2_with fail
    refine hw.mono ?_
    rintro e w5 ⟨rfl, rfl⟩
    go_wp2_with fail
    refine hp.mono ?_
    rintro e w6 ⟨rfl, rfl⟩
    go_wp2_with fail
    refine ht.mono ?_
    intro e w7 hS
    obtain ⟨A7, c7, rfl, o7, a7, g7⟩ := hS.at_ Aw4.out.lt
    have HB := Lib.hid a7.bel
    clear hS o7 a7 g7 Aw4 hw hp ht
    rw [Htt.out.2, List.length_nil]
    go_wp2
    go_ret
    exact ⟨rfl, HB.out⟩
  · rw [h0, show decide (pasteB ≠ []) = true by decide] at hw
    rw [h0, show decide (pasteB = pasteB) = true by decide] at hp
    clear h0
    go_wp2_with fail
    refine hw.mono ?_
    rintro e w5 ⟨rfl, rfl⟩
    go_wp2_with fail
    refine hp.mono ?_
    rintro e w6 ⟨rfl, rfl⟩
    go_wp2_with fail
    refine ht.mono ?_
    intro e w7 hS
    obtain ⟨A7, c7, rfl, o7, a7, g7⟩ := hS.at_ Aw4.out.lt
    have HB := Lib.hid a7.bel
    clear hS o7 a7 g7 Aw4 hw hp ht
    rw [Htt.out.2, List.length_nil]
    go_wp2
    go_ret
    exact ⟨rfl, HB.out⟩
end Go.Proofs.YtbkejjpkijjfaaaDoor
