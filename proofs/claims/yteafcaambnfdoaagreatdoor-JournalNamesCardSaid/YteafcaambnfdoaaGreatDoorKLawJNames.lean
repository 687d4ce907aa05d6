/-
  The walk of JournalNames (layer 12).
-/
import Derived.Test.YteafcaambnfdoaaGreatDoorPn35
import Derived.Test.YteafcaambnfdoaaGreatDoorPn38
namespace Go.Proofs.YteafcaambnfdoaaGreatDoor
open Go Go.RowKit
set_option maxRecDepth 100000

set_option maxHeartbeats 8000000 in
theorem lnames12_calls (n : ByteArray) (w : World) (ht : LaysR w) :
    Calls Tryz.prog 4 #[.string n] w fun x w' => x = .returned (.bool true) ∧ Below w.heap.size w w' := by
  have HT := Lib.hid ht
  clear ht
  by_cases hlong : 100 < n.size
  · have q1 : decide ((100 : Int) < (n.size : Int)) = true := decide_eq_true (by omega)
    clear hlong
    go_enter Tryz.func4, Tryz.ntmps4
    go_wp2_with fail
    refine (fnew_calls w).mono ?_
    rintro e w1 ⟨b, rfl, hin⟩
    have HF1 := Lib.hid (FX.of_in hin)
    have HA := Lib.hid (jalive12_calls w1 (HT.out.on HF1.out.bel))
    clear hin
    go_wp2_with fail
    refine HA.out.mono ?_
    rintro x w2 ⟨rfl, hb2⟩
    have HB2 := Lib.hid (HF1.out.below hb2).bel
    clear hb2 HA HF1
    go_wp2_with fail
    go_ret
    exact ⟨rfl, HB2.out⟩
  have q1 : decide ((100 : Int) < (n.size : Int)) = false := decide_eq_false (by omega)
  have hn1 : n.size ≤ 1000 := by omega
  clear hlong
  go_enter Tryz.func4, Tryz.ntmps4
  go_wp2_with fail
  refine (fnew_calls w).mono ?_
  rintro e w1 ⟨b, rfl, hin⟩
  have HF1 := Lib.hid (FX.of_in hin)
  have HO := Lib.hid (jopen12_calls w w1 _ _ b FS.new HF1.out n hn1 0 FS.At.new (by decide) HT.out)
  clear hin
  by_cases hn : n.size < 1 ∨ 16 < n.size
  · rw [open_named FS.new n rfl (by omega)] at HO
    simp only at HO
    go_wp2_with fail
    refine HO.out.mono ?_
    rintro e w2 ⟨v, A, c, X2, Y2, rfl, hO⟩
    have hj := hO.j
    rw [if_neg (by decide)] at hj
    subst hj
    have HF2 := Lib.hid hO.fx
    have HA := Lib.hid (jalive12_calls w2 (HT.out.on HF2.out.bel))
    clear hO HO HF1
    rcases (show n.size < 1 ∨ (¬ n.size < 1 ∧ 16 < n.size) by omega) with h1 | ⟨h1, h2⟩
    · have q2 : decide ((n.size : Int) < 1) = true := decide_eq_true (by omega)
      have q2' : (n.size : Int) < 1 := by omega
      clear hn h1
      go_wp2_with fail
      refine HA.out.mono ?_
      rintro x w3 ⟨rfl, hb3⟩
      have HB3 := Lib.hid (HF2.out.below hb3).bel
      clear hb3 HA HF2
      go_wp2_with fail
      go_ret
      exact ⟨rfl, HB3.out⟩
    · have q2 : decide ((n.size : Int) < 1) = false := decide_eq_false (by omega)
      have q3 : decide ((16 : Int) < (n.size : Int)) = true := decide_eq_true (by omega)
      clear hn h1 h2
      go_wp2_with fail
      refine HA.out.mono ?_
      rintro x w3 ⟨rfl, hb3⟩
      have HB3 := Lib.hid (HF2.out.below hb3).bel
      clear hb3 HA HF2
      go_wp2_with fail
      go_ret
      exact ⟨rfl, HB3.out⟩
  · have q2 : decide ((n.size : Int) < 1) = false := decide_eq_false (by omega)
    have q3 : decide ((16 : Int) < (n.size : Int)) = false := decide_eq_false (by omega)
    rw [open_new n (by omega) (by omega)] at HO
    simp only at HO
    have HSy := Lib.hid (sync_new n)
    clear hn
    go_wp2_with fail
    refine HO.out.mono ?_
    rintro e w2 ⟨v, A, c, X2, Y2, rfl, hO⟩
    obtain ⟨jb, rfl, hj, _⟩ := hO.jx
    have HJ2 := Lib.hid hj
    have HA := Lib.hid (jalive12_calls w2 (HT.out.on hj.fx.bel))
    clear hO hj HO HF1
    go_wp2_with fail
    refine HA.out.mono ?_
    rintro x w3 ⟨rfl, hb3⟩
    have HJ3 := Lib.hid (HJ2.out.below hb3)
    obtain ⟨O, D, hat⟩ := HJ3.out.fx.at_
    have HN := Lib.hid (fnames_calls _ O D b _ hat (FS.At.new.fit (by decide)))
    clear hb3 HA HJ2 hat
    go_wp2_with fail
    refine HN.out.mono ?_
    rintro x w4 ⟨u, rfl, hown, hb4⟩
    obtain ⟨A4, c4, rfl⟩ := own_form hown
    have HJ4 := Lib.hid (HJ3.out.below hb4)
    have HS := Lib.hid (jsync12_calls w w4 _ _ b FS.new jb n HJ4.out (FS.At.new.fit (by decide)))
    rw [HSy.out] at HS
    simp only at HS
    clear hown hb4 HN HJ3
    go_wp2_with fail
    refine HS.out.mono ?_
    rintro x w5 ⟨rfl, hj5, ho5⟩
    have HJ5 := Lib.hid hj5
    obtain ⟨O, D, hat⟩ := hj5.fx.at_
    have HP := Lib.hid (fops_calls _ O D b _ hat (FS.At.new.fit (by decide)))
    clear hj5 ho5 HS HJ4 hat
    go_wp2_with fail
    refine HP.out.mono ?_
    rintro x w6 ⟨rfl, hb6⟩
    have HB6 := Lib.hid (HJ5.out.below hb6).fx.bel
    clear hb6 HP HJ5
    go_wp2_with fail
    go_ret
    exact ⟨rfl, HB6.out⟩
end Go.Proofs.YteafcaambnfdoaaGreatDoor
