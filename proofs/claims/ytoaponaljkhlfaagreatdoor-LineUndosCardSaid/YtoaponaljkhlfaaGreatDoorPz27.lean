/-
  Layer 7 and what it stands on, part 27 (WRdA RBack).
-/
import Derived.Test.YtoaponaljkhlfaaGreatDoorPz21
import Derived.Test.YtoaponaljkhlfaaGreatDoorPz26
namespace Go.Proofs.YtoaponaljkhlfaaGreatDoor
section
open Go Go.RowKit
theorem rcut_rd (l : List UInt8) (hl : l.length ≤ 1099511627776) (w : World) :
  Calls Tryz.prog 102 #[.string (bs l)] w fun e w' => ∃ A c, e = .returned (.slice A (cutL l).length c) ∧ RdS w' A ((cutL l).map bs) ∧ Below w.heap.size w w' := by
 refine (rcut_calls l w hl).mono ?_
 rintro e w' ⟨v, rfl, hown, hb⟩
 rw [← List.length_map (f := bs)] at hown
 obtain ⟨A, c, rfl⟩ := own_form hown
 obtain ⟨hR, _, _, _⟩ := rdS_of_own hown
 exact ⟨A, c, by rw [List.length_map], hR, hb⟩
theorem rbounds_rd (l : List UInt8) (hl : l.length ≤ 1099511627776) (w : World) :
  Calls Tryz.prog 98 #[.string (bs l)] w fun e w' => ∃ A c, e = .returned (.slice A (boundsL l).length c) ∧ Rd64 w' A (boundsL l) ∧ Below w.heap.size w w' := by
 refine (rbounds_calls l w hl).mono ?_
 rintro e w' ⟨v, rfl, hown, hb⟩
 obtain ⟨A, c, rfl⟩ := own_form hown
 obtain ⟨hR, _, _, _⟩ := rd64_of_own hown
 exact ⟨A, c, rfl, hR, hb⟩
end
section
open Go Go.RowKit
open Go.Lib (hid)
theorem rbounds_pos (l : List UInt8) (hl : l.length ≤ 1099511627776) (w : World) :
  Calls Tryz.prog 98 #[.string (bs l)] w fun e w' => ∃ (g o c : Nat), e = .returned (.slice (some ⟨g, o, none⟩) ((cutL l).length + 1) c) ∧ (∀ k, k ≤ (cutL l).length → w'.cell? ⟨g, o + k, none⟩ = some (.int .i64 (pos (cutL l) k : Int))) ∧ Below w.heap.size w w' := by
 refine (rbounds_rd l hl w).mono ?_
 rintro e w' ⟨A, c, rfl, hR, hb⟩
 have hlen : (boundsL l).length = (cutL l).length + 1 := bnd_length _ _
 obtain ⟨g, o, rfl, _, hc⟩ := hR (by omega)
 exact ⟨g, o, c, by rw [hlen], fun k hk => by rw [hc k (by omega), bounds_at l k hk], hb⟩
set_option maxHeartbeats 2000000 in
theorem rback_calls (l : List UInt8) (n : Int) (hl : l.length ≤ 1099511627776) (w : World) :
  Calls Tryz.prog 49 #[.string (bs l), .int .i64 n] w fun e w' => e = .returned (.int .i64 (backL l n : Int)) ∧ Below w.heap.size w w' := by
 have HC := hid (fun W => rbounds_pos l hl W)
 have hcl := cutL_length l
 have hple := cut_len_le l
 have hbk : Hid (backL l n = pos (cutL l) (bk (cutL l) n)) := hid rfl
 have hbl := bk_le (cutL l) n
 generalize cutL l = cs at *
 generalize backL l n = x at *
 go_enter Tryz.func49, Tryz.ntmps49
 go_wp2_with fail
 refine (HC.out _).mono ?_
 rintro e w1 ⟨g, o, c, rfl, hR, hb⟩
 have HR := hid hR
 clear hR HC
 go_wp2_with fail
 go_loopw [6] (fun v6 wr => ∃ k : Nat, v6 = .int .i64 (k : Int) ∧ k ≤ cs.length ∧ Hid (bk cs n ≤ k) ∧ wr = w1) (fun v6 _ => (intOf v6).toNat)
 case atStart => exact ⟨cs.length, by go_num, Nat.le_refl _, hid hbl, rfl⟩
 case round =>
  obtain ⟨k, rfl, hk, hbd, rfl⟩ := hrel
  have ck := HR.out k hk
  have Hple := hid (hple k)
  have hkl : (k : Int) < (cs.length : Int) + 1 := by omega
  generalize hp : pos cs k = p at *
  have Hp := hid hp
  clear hp hple
  by_cases h0 : 0 < k
  ·have hd0 : decide ((0 : Int) < (k : Int)) = true := decide_eq_true (by omega)
   by_cases h1 : n < (p : Int)
   ·have hd1 : decide (n < (p : Int)) = true := decide_eq_true h1
    go_wp2
    go_roundw
    case rel => exact ⟨k - 1, by go_num, by omega, hid (by have := bk_lt (cs := cs) h0 (by rw [Hp.out]; exact h1); omega), trivial⟩
    case measure => simp [intOf]; omega
   ·have hd1 : decide (n < (p : Int)) = false := decide_eq_false h1
    go_wp2
    go_ret
    have e : bk cs n = k := by
     have := bk_ge (cs := cs) hk (by rw [Hp.out]; omega)
     have := hbd.out
     omega
    exact ⟨by rw [hbk.out, e, Hp.out]; rfl, hb⟩
  ·have hd0 : decide ((0 : Int) < (k : Int)) = false := decide_eq_false (by omega)
   go_wp2
   go_ret
   obtain rfl : k = 0 := by omega
   have e : bk cs n = 0 := by have := hbd.out; omega
   exact ⟨by rw [hbk.out, e, Hp.out]; rfl, hb⟩
set_option maxHeartbeats 2000000 in
theorem ron_calls (l : List UInt8) (n : Int) (hl : l.length ≤ 1099511627776) (w : World) :
  Calls Tryz.prog 103 #[.string (bs l), .int .i64 n] w fun e w' => e = .returned (.int .i64 (onL l n : Int)) ∧ Below w.heap.size w w' := by
 have HC := hid (fun W => rbounds_pos l hl W)
 have hcl := cutL_length l
 have hple := cut_len_le l
 have hbk : Hid (onL l n = pos (cutL l) (ok (cutL l) n)) := hid rfl
 have hbl := ok_le (cutL l) n
 generalize cutL l = cs at *
 generalize onL l n = x at *
 go_enter Tryz.func103, Tryz.ntmps103
 go_wp2_with fail
 refine (HC.out _).mono ?_
 rintro e w1 ⟨g, o, c, rfl, hR, hb⟩
 have HR := hid hR
 have Hbl := hid hbl
 clear hR HC hbl
 go_wp2_with fail
 go_loopw [6] (fun v6 wr => ∃ k : Nat, v6 = .int .i64 (k : Int) ∧ k ≤ cs.length ∧ Hid (k ≤ ok cs n) ∧ wr = w1) (fun v6 _ => cs.length - (intOf v6).toNat)
 case atStart => exact ⟨0, by go_num, Nat.zero_le _, hid (Nat.zero_le _), rfl⟩
 case round =>
  obtain ⟨k, rfl, hk, hbd, rfl⟩ := hrel
  have ck := HR.out k hk
  have Hple := hid (hple k)
  have hkl : (k : Int) < (cs.length : Int) + 1 := by omega
  generalize hp : pos cs k = p at *
  have Hp := hid hp
  clear hp hple
  by_cases h0 : k < cs.length
  ·have hd0 : decide ((k : Int) < (cs.length : Int)) = true := decide_eq_true (by omega)
   by_cases h1 : (p : Int) < n
   ·have hd1 : decide ((p : Int) < n) = true := decide_eq_true h1
    go_wp2
    go_roundw
    case rel => exact ⟨k + 1, by go_num, by omega, hid (by have := ok_gt (cs := cs) h0 (by rw [Hp.out]; exact h1); omega), trivial⟩
    case measure => simp [intOf]; omega
   ·have hd1 : decide ((p : Int) < n) = false := decide_eq_false h1
    go_wp2
    go_ret
    have e : ok cs n = k := by
     have := ok_le_of (cs := cs) (n := n) (k := k) (by rw [Hp.out]; omega)
     have := hbd.out
     omega
    exact ⟨by rw [hbk.out, e, Hp.out]; rfl, hb⟩
  ·have hd0 : decide ((k : Int) < (cs.length : Int)) = false := decide_eq_false (by omega)
   go_wp2
   go_ret
   obtain rfl : k = cs.length := by omega
   have e : ok cs n = cs.length := by have := hbd.out; have := Hbl.out; omega
   exact ⟨by rw [hbk.out, e, Hp.out]; rfl, hb⟩
end
end Go.Proofs.YtoaponaljkhlfaaGreatDoor
