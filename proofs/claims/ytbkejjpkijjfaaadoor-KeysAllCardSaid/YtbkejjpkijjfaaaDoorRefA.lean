/-
  The document's own Bytes, low and begins.
-/
import Derived.Test.YtbkejjpkijjfaaaDoorMem
import Derived.Test.YtbkejjpkijjfaaaDoorRefMath
import Derived.Test.YtbkejjpkijjfaaaDoorChecked
import Derived.Deep.QuietTactic
import Derived.BigQuiet
import Derived.OwnWalk
namespace Go.Proofs.YtbkejjpkijjfaaaDoor
open Go Go.RowKit

set_option maxHeartbeats 1000000 in
theorem low_calls (A : Option Addr) (c : Nat) (l : List UInt8) (k : Nat) (w : World) (hb : Byt w A l) (hm : l.length ≤ maxLen) (hk : k ≤ 3) :
    Calls Tryd.prog 47 #[.slice A l.length c, .int .i64 (k : Int)] w fun e w' => e = .returned (.int .i64 (lowL l k)) ∧ w = w' := by
  unfold maxLen at hm
  unfold lowL
  by_cases hlt : k < l.length
  · obtain ⟨b, o, rfl, _, hc⟩ := hb.at_ (by omega)
    have hck := hc k hlt
    have hu := (l.getD k 0).toNat_lt
    clear hc hb
    generalize (l.getD k 0).toNat = y at *
    generalize l.length = n at *
    have hd : decide ((n : Int) ≤ (k : Int)) = false := decide_eq_false (by omega)
    have hd' : decide (n ≤ k) = false := decide_eq_false (by omega)
    by_cases h1 : y < 128
    · rw [if_neg (by omega)]
      have e1 : decide ((y : Int) < 128) = true := decide_eq_true (by omega)
      go_enter Tryd.func47, Tryd.ntmps47
      go_wp2
      go_ret
      exact ⟨rfl, rfl⟩
    · by_cases h2 : 191 < y
      · rw [if_neg (by omega)]
        have e1 : decide ((y : Int) < 128) = false := decide_eq_false (by omega)
        have e2 : decide ((191 : Int) < (y : Int)) = true := decide_eq_true (by omega)
        go_enter Tryd.func47, Tryd.ntmps47
        go_wp2
        go_ret
        exact ⟨rfl, rfl⟩
      · rw [if_pos (by omega)]
        have e1 : decide ((y : Int) < 128) = false := decide_eq_false (by omega)
        have e2 : decide ((191 : Int) < (y : Int)) = false := decide_eq_false (by omega)
        go_enter Tryd.func47, Tryd.ntmps47
        go_wp2
        go_ret
        exact ⟨rfl, rfl⟩
  · rw [if_neg (by omega)]
    have hd : decide ((l.length : Int) ≤ (k : Int)) = true := decide_eq_true (by omega)
    clear hb
    go_enter Tryd.func47, Tryd.ntmps47
    go_wp2
    go_ret
    exact ⟨rfl, rfl⟩

set_option maxHeartbeats 2000000 in
theorem begins_calls (A B : Option Addr) (c d : Nat) (l p : List UInt8) (w : World) (hb : Byt w A l) (hp : Byt w B p) (hm : l.length ≤ maxLen) (hm2 : p.length ≤ maxLen) :
    Calls Tryd.prog 48 #[.slice A l.length c, .slice B p.length d] w fun e w' => e = .returned (.bool (begL l p)) ∧ Below w.heap.size w w' := by
  unfold maxLen at hm hm2
  by_cases h0 : p.length = 0
  · have e1 : begL l p = false := decide_eq_false (by omega)
    rw [e1, h0]
    clear hb hp
    go_enter Tryd.func48, Tryd.ntmps48
    go_wp2
    go_ret
    exact ⟨rfl, Below.refl _ _⟩
  · have hz : ((p.length : Int) == 0) = false := beq_eq_false_iff_ne.2 (by omega)
    by_cases hlt : l.length < p.length
    · have e1 : begL l p = false := decide_eq_false (by omega)
      rw [e1]
      clear hb hp
      have e2 : decide ((l.length : Int) < (p.length : Int)) = true := decide_eq_true (by omega)
      go_enter Tryd.func48, Tryd.ntmps48
      go_wp2
      go_ret
      exact ⟨rfl, Below.refl _ _⟩
    · obtain ⟨b, o, rfl, _, hc⟩ := hb.at_ (by omega)
      obtain ⟨b2, o2, rfl, _, hc2⟩ := hp.at_ (by omega)
      clear hb hp
      have Hc := Lib.hid hc
      have Hc2 := Lib.hid hc2
      clear hc hc2
      have hp0 : 0 < p.length := by omega
      have hpl : p.length ≤ l.length := by omega
      have e2 : decide ((l.length : Int) < (p.length : Int)) = false := decide_eq_false (by omega)
      have e3 : decide (l.length < p.length) = false := decide_eq_false (by omega)
      go_enter Tryd.func48, Tryd.ntmps48
      go_wp2_with fail
      go_loopw [5] (fun i wr => ∃ k n : Nat, k ≤ p.length ∧ i = .int .i64 (k : Int) ∧ wr = w.drewN n ∧ Hid (∀ i, i < k → (l.getD i 0).toNat = (p.getD i 0).toNat)) (fun i _ => p.length - (intOf i).toNat)
      case atStart => exact ⟨0, 0, by omega, rfl, rfl, Lib.hid (fun i hi => by omega)⟩
      case round =>
        obtain ⟨k, n, hk, rfl, rfl, hall⟩ := hrel
        clear e2 e3
        by_cases hkp : k < p.length
        · have ck := Hc.out k (by omega)
          have ck2 := Hc2.out k hkp
          have hkl : k < l.length := by omega
          have hall' : Hid (((l.getD k 0).toNat = (p.getD k 0).toNat) → ∀ i, i < k + 1 → (l.getD i 0).toNat = (p.getD i 0).toNat) := by
            refine Lib.hid fun he i hi => ?_
            by_cases hik : i < k
            · exact hall.out i hik
            · obtain rfl : i = k := by omega
              exact he
          have hno : Hid (¬ ((l.getD k 0).toNat = (p.getD k 0).toNat) → begL l p = false) := by
            refine Lib.hid fun he => decide_eq_false fun h => he (h.2.2 k hkp)
          generalize (l.getD k 0).toNat = x at *
          generalize (p.getD k 0).toNat = y at *
          by_cases hxy : x = y
          · have hne : ((x : Int) != (y : Int)) = false := by simp [hxy]
            have Hxy := Lib.hid hxy
            clear hxy
            go_wp2_with fail
            go_quiet (fail)
            go_wp2
            go_roundw
            case rel => exact ⟨k + 1, _, by omega, by go_num, rfl, Lib.hid (hall'.out Hxy.out)⟩
            case measure => simp [intOf]; omega
          · have hne : ((x : Int) != (y : Int)) = true := by simp; omega
            have Hxy := Lib.hid hxy
            clear hxy
            go_wp2_with fail
            go_quiet (fail)
            go_wp2
            go_ret
            exact ⟨by rw [hno.out Hxy.out]; rfl, bel_drewN (bel_drewN (Below.refl _ _) _) _⟩
        · go_wp2
          go_ret
          obtain rfl : k = p.length := by omega
          have e1 : begL l p = true := decide_eq_true ⟨hp0, hpl, hall.out⟩
          exact ⟨by rw [e1]; rfl, bel_drewN (Below.refl _ _) _⟩
end Go.Proofs.YtbkejjpkijjfaaaDoor
