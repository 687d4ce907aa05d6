/-
  The walk of KeysAfter.
-/
import Derived.Test.YtbkejjpkijjfaaaDoorKAlive
import Derived.Test.YtbkejjpkijjfaaaDoorWaitMath
namespace Go.Proofs.YtbkejjpkijjfaaaDoor
open Go Go.RowKit
set_option maxRecDepth 100000

set_option maxHeartbeats 4000000 in
theorem kafter_calls (A : Option Addr) (c : Nat) (b : List UInt8) (w : World) (hb : Byt w A b) (hL : Lays w) (hn : b.length ≤ 9223372036854775807) :
    Calls Tryd.prog 8 #[.slice A b.length c] w fun e w' => e = .returned (.bool true) ∧ Below w.heap.size w w' := by
  by_cases hbig : 1500 < b.length
  · have hcon := Lib.hid (kalive_calls w hL)
    clear hb hL
    generalize b.length = n at *
    go_enter Tryd.func8, Tryd.ntmps8
    go_wp2_with fail
    refine hcon.out.mono ?_
    rintro e w' ⟨rfl, h⟩
    go_wp2
    go_ret
    exact ⟨rfl, h⟩
  have F1 := Lib.hid ((At4.new w hL).feedArg c hb (by omega))
  have Hg := Lib.hid (feed_good b _ Dec.good_zero)
  have Hb := Lib.hid hb
  have HL := Lib.hid hL
  clear hb hL
  generalize feedD Dec.zero b = r at *
  generalize b.length = n at *
  go_enter Tryd.func8, Tryd.ntmps8
  go_wp2_with fail
  refine F1.out.mono ?_
  intro e w1 hS
  obtain ⟨A1, c1, rfl, o1, a1, g1⟩ := hS.at_ (by simp)
  have Aw1 := Lib.hid a1
  have hp := pasting_calls _ _ _ a1.1
  clear hS o1 a1 g1 F1
  by_cases hw : r.2.w = pasteB
  · rw [decide_eq_true hw] at hp
    clear hw
    go_wp2_with fail
    refine hp.mono ?_
    rintro e w2 ⟨rfl, rfl⟩
    go_wp2_with fail
    refine (kalive_calls w1 Aw1.out.lays).mono ?_
    rintro e w6 ⟨rfl, h6⟩
    go_wp2
    go_ret
    exact ⟨rfl, Aw1.out.bel.trans (h6.mono Aw1.out.bel.size)⟩
  · rw [decide_eq_false hw] at hp
    obtain ⟨hr, ks, hks⟩ := keys_after r.2.w Hg.out.2 hw
    have f2 := Aw1.out.put 12
    have he : putD r.2 12 = (ks ++ [(25, [])], ⟨[], r.2.p, r.2.e, false⟩) := by
      unfold putD
      rw [if_neg hw, hr, hks]
      rfl
    rw [he] at f2
    have F2 := Lib.hid f2
    clear hw hr hks f2 he
    go_wp2_with fail
    refine hp.mono ?_
    rintro e w2 ⟨rfl, rfl⟩
    go_wp2_with fail
    refine F2.out.mono ?_
    intro e w3 hS
    obtain ⟨A3, c3, rfl, o3, a3, g3⟩ := hS.at_ Aw1.out.lt
    have O3 := Lib.hid o3
    have Aw3 := Lib.hid a3
    clear hS o3 a3 g3 F2 Aw1
    go_wp2_with fail
    refine (kalive_calls w3 Aw3.out.lays).mono ?_
    rintro e w4 ⟨rfl, hb4⟩
    have o4 := own_below O3.out hb4
    have Aw4 := Lib.hid (Aw3.out.below hb4)
    obtain ⟨r4, _, _, hm3⟩ := rdK_of_own o4
    obtain ⟨p4, rfl, hp4, q4⟩ := r4.at_ (by simp)
    have q40 := (q4 ks.length (by simp)).1
    have hg : (ks ++ [(25, [])]).getD ks.length (0, []) = (25, []) := by simp [List.getD]
    rw [hg] at q40
    have hw4 := waits_calls4 _ _ _ Aw4.out.1
    rw [show decide ((⟨[], r.2.p, r.2.e, false⟩ : Dec).w ≠ []) = false by simp] at hw4
    have hlen : (ks ++ [((25, []) : KV)]).length = ks.length + 1 := by simp
    have hle : (ks ++ [((25, []) : KV)]).length ≤ 9223372036854775807 := by
      have := (rdK_of_own o4).2.2.1
      unfold maxLen at hm3
      omega
    rw [hlen] at hle
    have hsub : ((ks.length + 1 : Nat) : Int) - 1 = (ks.length : Int) := by omega
    clear o4 hb4 r4 q4 O3 Aw3 hg hlen
    generalize ks.length = m at *
    go_wp2_with fail
    refine hw4.mono ?_
    rintro e w6 ⟨rfl, rfl⟩
    go_wp2
    go_ret
    exact ⟨rfl, Aw4.out.bel⟩
end Go.Proofs.YtbkejjpkijjfaaaDoor
