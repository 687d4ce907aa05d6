/-
  utf8.FullRune, and sign.Whole, which is it.
-/
import Derived.Test.YtbkejjpkijjfaaaDoorMem
import Derived.Test.YtbkejjpkijjfaaaDoorChecked
import Derived.Lib.LaidU8
import Derived.Deep.QuietTactic
import Derived.BigQuiet
namespace Go.Proofs.YtbkejjpkijjfaaaDoor
open Go Go.RowKit

theorem full_none (A : Option Addr) (c : Nat) (w : World) :
    Calls Tryd.prog 59 #[.slice A 0 c] w fun e w' => e = .returned (.bool false) ∧ Below w.heap.size w w' := by
  go_enter Tryd.func59, Tryd.ntmps59
  go_wp2
  go_ret
  exact ⟨rfl, Below.refl _ _⟩

set_option maxHeartbeats 1000000 in
theorem full_fast (b o n c : Nat) (x sz b0 : Int) (w : World) (hn : 0 < n) (hx0 : 0 ≤ x) (hx1 : x ≤ 255) (h8 : x % 8 = sz) (_hsz0 : 0 ≤ sz) (_hsz1 : sz < 8) (hlt : sz ≤ n) (h00 : 0 ≤ b0) (h01 : b0 ≤ 255) (c0 : w.cell? ⟨b, o, none⟩ = some (.int .u8 b0))
   (hf : w.cell? ⟨2, b0.toNat, none⟩ = some (.int .u8 x)) :
    Calls Tryd.prog 59 #[.slice (some ⟨b, o, none⟩) n c] w fun e w' => e = .returned (.bool true) ∧ Below w.heap.size w w' := by
  have hn0 : ((n : Int) == 0) = false := beq_eq_false_iff_ne.2 (by omega)
  go_enter Tryd.func59, Tryd.ntmps59
  go_wp2
  go_ret
  exact ⟨rfl, Below.refl _ _⟩

set_option maxHeartbeats 1000000 in
theorem full_one (b o c : Nat) (x sz k b0 lo hi : Int) (w : World) (hx0 : 0 ≤ x) (hx1 : x ≤ 255) (h8 : x % 8 = sz) (h16 : x / 16 = k) (_hsz1 : sz < 8) (hk0 : 0 ≤ k) (hk1 : k < 16) (hlt : 1 < sz) (h00 : 0 ≤ b0) (h01 : b0 ≤ 255) (c0 : w.cell? ⟨b, o, none⟩ = some (.int .u8 b0))
   (hf : w.cell? ⟨2, b0.toNat, none⟩ = some (.int .u8 x)) (hl : w.cell? ⟨3, k.toNat * 2, none⟩ = some (.int .u8 lo)) (hh : w.cell? ⟨3, k.toNat * 2 + 1, none⟩ = some (.int .u8 hi)) :
    Calls Tryd.prog 59 #[.slice (some ⟨b, o, none⟩) 1 c] w fun e w' => e = .returned (.bool false) ∧ Below w.heap.size w w' := by
  go_enter Tryd.func59, Tryd.ntmps59
  go_wp2_with fail
  go_quiet (fail)
  go_wp2
  go_ret
  exact ⟨rfl, bel_drewN ((Below.refl _ _).alloc (Nat.le_refl _) _) _⟩

set_option maxHeartbeats 1000000 in
theorem full_two (b o c : Nat) (x sz k b0 b1 lo hi : Int) (w : World) (hx0 : 0 ≤ x) (hx1 : x ≤ 255) (h8 : x % 8 = sz) (h16 : x / 16 = k) (_hsz1 : sz < 8) (hk0 : 0 ≤ k) (hk1 : k < 16) (hlt : 2 < sz) (h00 : 0 ≤ b0) (h01 : b0 ≤ 255) (c0 : w.cell? ⟨b, o, none⟩ = some (.int .u8 b0)) (c1 : w.cell? ⟨b, o + 1, none⟩ = some (.int .u8 b1))
   (hf : w.cell? ⟨2, b0.toNat, none⟩ = some (.int .u8 x)) (hl : w.cell? ⟨3, k.toNat * 2, none⟩ = some (.int .u8 lo)) (hh : w.cell? ⟨3, k.toNat * 2 + 1, none⟩ = some (.int .u8 hi)) :
    Calls Tryd.prog 59 #[.slice (some ⟨b, o, none⟩) 2 c] w fun e w' => e = .returned (.bool (decide (b1 < lo ∨ hi < b1))) ∧ Below w.heap.size w w' := by
  have hbl := World.block_lt_of_cell? _ _ c1
  by_cases g1 : b1 < lo
  · rw [decide_eq_true (Or.inl g1)]
    have g1' : decide (b1 < lo) = true := decide_eq_true g1
    go_enter Tryd.func59, Tryd.ntmps59
    go_wp2_with fail
    go_quiet (fail)
    go_wp2
    go_ret
    exact ⟨rfl, bel_drewN ((Below.refl _ _).alloc (Nat.le_refl _) _) _⟩
  · have g1' : decide (b1 < lo) = false := decide_eq_false g1
    by_cases g2 : hi < b1
    · rw [decide_eq_true (Or.inr g2)]
      have g2' : decide (hi < b1) = true := decide_eq_true g2
      go_enter Tryd.func59, Tryd.ntmps59
      go_wp2_with fail
      go_quiet (fail)
      go_wp2
      go_ret
      exact ⟨rfl, bel_drewN ((Below.refl _ _).alloc (Nat.le_refl _) _) _⟩
    · rw [decide_eq_false (by omega)]
      have g2' : decide (hi < b1) = false := decide_eq_false g2
      go_enter Tryd.func59, Tryd.ntmps59
      go_wp2_with fail
      go_quiet (fail)
      go_wp2
      go_ret
      exact ⟨rfl, bel_drewN ((Below.refl _ _).alloc (Nat.le_refl _) _) _⟩

set_option maxHeartbeats 2000000 in
theorem full_three (b o c : Nat) (x sz k b0 b1 b2 lo hi : Int) (w : World) (hx0 : 0 ≤ x) (hx1 : x ≤ 255) (h8 : x % 8 = sz) (h16 : x / 16 = k) (_hsz1 : sz < 8) (hk0 : 0 ≤ k) (hk1 : k < 16) (hlt : 3 < sz) (h00 : 0 ≤ b0) (h01 : b0 ≤ 255) (c0 : w.cell? ⟨b, o, none⟩ = some (.int .u8 b0)) (c1 : w.cell? ⟨b, o + 1, none⟩ = some (.int .u8 b1)) (c2 : w.cell? ⟨b, o + 2, none⟩ = some (.int .u8 b2))
   (hf : w.cell? ⟨2, b0.toNat, none⟩ = some (.int .u8 x)) (hl : w.cell? ⟨3, k.toNat * 2, none⟩ = some (.int .u8 lo)) (hh : w.cell? ⟨3, k.toNat * 2 + 1, none⟩ = some (.int .u8 hi)) :
    Calls Tryd.prog 59 #[.slice (some ⟨b, o, none⟩) 3 c] w fun e w' => e = .returned (.bool (decide ((b1 < lo ∨ hi < b1) ∨ (b2 < 128 ∨ 191 < b2)))) ∧ Below w.heap.size w w' := by
  have hbl := World.block_lt_of_cell? _ _ c1
  by_cases g1 : b1 < lo
  · rw [decide_eq_true (Or.inl (Or.inl g1))]
    have g1' : decide (b1 < lo) = true := decide_eq_true g1
    go_enter Tryd.func59, Tryd.ntmps59
    go_wp2_with fail
    go_quiet (fail)
    go_wp2
    go_ret
    exact ⟨rfl, bel_drewN ((Below.refl _ _).alloc (Nat.le_refl _) _) _⟩
  · have g1' : decide (b1 < lo) = false := decide_eq_false g1
    by_cases g2 : hi < b1
    · rw [decide_eq_true (Or.inl (Or.inr g2))]
      have g2' : decide (hi < b1) = true := decide_eq_true g2
      go_enter Tryd.func59, Tryd.ntmps59
      go_wp2_with fail
      go_quiet (fail)
      go_wp2
      go_ret
      exact ⟨rfl, bel_drewN ((Below.refl _ _).alloc (Nat.le_refl _) _) _⟩
    · have g2' : decide (hi < b1) = false := decide_eq_false g2
      by_cases g3 : b2 < 128
      · rw [decide_eq_true (Or.inr (Or.inl g3))]
        go_enter Tryd.func59, Tryd.ntmps59
        go_wp2_with fail
        go_quiet (fail)
        go_wp2
        go_ret
        exact ⟨rfl, bel_drewN ((Below.refl _ _).alloc (Nat.le_refl _) _) _⟩
      · by_cases g4 : 191 < b2
        · rw [decide_eq_true (Or.inr (Or.inr g4))]
          go_enter Tryd.func59, Tryd.ntmps59
          go_wp2_with fail
          go_quiet (fail)
          go_wp2
          go_ret
          exact ⟨rfl, bel_drewN ((Below.refl _ _).alloc (Nat.le_refl _) _) _⟩
        · rw [decide_eq_false (by omega)]
          go_enter Tryd.func59, Tryd.ntmps59
          go_wp2_with fail
          go_quiet (fail)
          go_wp2
          go_ret
          exact ⟨rfl, bel_drewN ((Below.refl _ _).alloc (Nat.le_refl _) _) _⟩

/-- The tables of unicode/utf8 lie as they are laid. -/
abbrev Tabs (w : World) : Prop := Lib.Utf8Tabs 2 3 w
theorem tabs_below {w w' : World} (h : Tabs w) (hb : Below w.heap.size w w') : Tabs w' := by
  refine ⟨fun c hc => ?_, fun i hi => ⟨?_, ?_⟩⟩
  · have := h.1 c hc
    rw [hb.cell (World.block_lt_of_cell? _ _ this)]; exact this
  · have := (h.2 i hi).1
    rw [hb.cell (World.block_lt_of_cell? _ _ this)]; exact this
  · have := (h.2 i hi).2
    rw [hb.cell (World.block_lt_of_cell? _ _ this)]; exact this

theorem full_nums (b o n c b0 b1 b2 x lo hi : Nat) (w : World) (hn : 0 < n) (h0 : b0 < 256) (hx : x ≤ 255 ∧ x % 8 ≤ 4) (c0 : w.cell? ⟨b, o, none⟩ = some (.int .u8 (b0 : Int))) (c1 : 1 < n → w.cell? ⟨b, o + 1, none⟩ = some (.int .u8 (b1 : Int))) (c2 : 2 < n → w.cell? ⟨b, o + 2, none⟩ = some (.int .u8 (b2 : Int)))
    (hf : w.cell? ⟨2, b0, none⟩ = some (.int .u8 (x : Int))) (ha : w.cell? ⟨3, 2 * (x / 16), none⟩ = some (.int .u8 (lo : Int))) (hh : w.cell? ⟨3, 2 * (x / 16) + 1, none⟩ = some (.int .u8 (hi : Int))) :
    Calls Tryd.prog 59 #[.slice (some ⟨b, o, none⟩) n c] w fun e w' => e = .returned (.bool (decide (0 < n ∧ (x % 8 ≤ n ∨ (1 < n ∧ (b1 < lo ∨ hi < b1)) ∨ (2 < n ∧ (b2 < 128 ∨ 191 < b2)))))) ∧ Below w.heap.size w w' := by
  have e16 : ((x : Int) / 16).toNat * 2 = 2 * (x / 16) := by omega
  rw [← e16] at ha hh
  clear e16
  have hf' : w.cell? ⟨2, (b0 : Int).toNat, none⟩ = some (.int .u8 (x : Int)) := hf
  by_cases hs : x % 8 ≤ n
  · rw [decide_eq_true ⟨hn, Or.inl hs⟩]
    exact full_fast b o n c (x : Int) ((x : Int) % 8) (b0 : Int) w hn (by omega) (by omega) rfl (by omega) (by omega) (by omega) (by omega) (by omega) c0 hf'
  · have hcases : n = 1 ∨ n = 2 ∨ n = 3 := by omega
    rcases hcases with rfl | rfl | rfl
    · rw [decide_eq_false (by omega)]
      exact full_one b o c (x : Int) ((x : Int) % 8) ((x : Int) / 16) (b0 : Int) lo hi w (by omega) (by omega) rfl rfl (by omega) (by omega) (by omega) (by omega) (by omega) (by omega) c0 hf' ha hh
    · have e : decide (0 < 2 ∧ (x % 8 ≤ 2 ∨ (1 < 2 ∧ (b1 < lo ∨ hi < b1)) ∨ (2 < 2 ∧ (b2 < 128 ∨ 191 < b2)))) = decide ((b1 : Int) < lo ∨ (hi : Int) < b1) := by rw [decide_eq_decide]; omega
      rw [e]
      exact full_two b o c (x : Int) ((x : Int) % 8) ((x : Int) / 16) (b0 : Int) b1 lo hi w (by omega) (by omega) rfl rfl (by omega) (by omega) (by omega) (by omega) (by omega) (by omega) c0 (c1 (by omega)) hf' ha hh
    · have e : decide (0 < 3 ∧ (x % 8 ≤ 3 ∨ (1 < 3 ∧ (b1 < lo ∨ hi < b1)) ∨ (2 < 3 ∧ (b2 < 128 ∨ 191 < b2)))) = decide (((b1 : Int) < lo ∨ (hi : Int) < b1) ∨ ((b2 : Int) < 128 ∨ 191 < (b2 : Int))) := by rw [decide_eq_decide]; omega
      rw [e]
      exact full_three b o c (x : Int) ((x : Int) % 8) ((x : Int) / 16) (b0 : Int) b1 b2 lo hi w (by omega) (by omega) rfl rfl (by omega) (by omega) (by omega) (by omega) (by omega) (by omega) c0 (c1 (by omega)) (c2 (by omega)) hf' ha hh

theorem full_calls (A : Option Addr) (c : Nat) (l : List UInt8) (w : World) (hb : Byt w A l) (ht : Tabs w) :
    Calls Tryd.prog 59 #[.slice A l.length c] w fun e w' => e = .returned (.bool (wholeL l)) ∧ Below w.heap.size w w' := by
  by_cases hl : l.length = 0
  · obtain rfl : l = [] := List.eq_nil_of_length_eq_zero hl
    exact full_none A c w
  · obtain ⟨b, o, rfl, _, hc⟩ := hb.at_ (by omega)
    have h0 := (l.getD 0 0).toNat_lt
    have hx := firstT_lt (l.getD 0 0).toNat
    obtain ⟨ha, hh⟩ := ht.2 (Lib.firstT (l.getD 0 0).toNat / 16) (by omega)
    exact full_nums b o l.length c _ (l.getD 1 0).toNat (l.getD 2 0).toNat _ _ _ w (by omega) h0 hx (hc 0 (by omega)) (hc 1) (hc 2) (ht.1 _ h0) ha hh

theorem whole_calls (A : Option Addr) (c : Nat) (l : List UInt8) (w : World) (hb : Byt w A l) (ht : Tabs w) :
    Calls Tryd.prog 44 #[.slice A l.length c] w fun e w' => e = .returned (.bool (wholeL l)) ∧ Below w.heap.size w w' := by
  have hcon := Lib.hid (full_calls A c l w hb ht)
  clear hb ht
  generalize wholeL l = r at hcon ⊢
  go_enter Tryd.func44, Tryd.ntmps44
  go_wp2_with fail
  refine hcon.out.mono ?_
  rintro e w' ⟨rfl, h⟩
  go_wp2
  go_ret
  exact ⟨rfl, h⟩
end Go.Proofs.YtbkejjpkijjfaaaDoor
