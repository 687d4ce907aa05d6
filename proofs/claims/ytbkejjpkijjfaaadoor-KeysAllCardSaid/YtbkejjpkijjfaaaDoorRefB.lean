/-
  The document's own Bytes.
-/
import Derived.Test.YtbkejjpkijjfaaaDoorRefA
namespace Go.Proofs.YtbkejjpkijjfaaaDoor
open Go Go.RowKit

/-- A slice of bytes that was told: where it lies, and how it reads. -/
def Told (w w' : World) (e : Ending) (l : List UInt8) : Prop := ∃ A d, e = .returned (.slice A l.length d) ∧ Byt w' A l ∧ (A = none → d = 0) ∧ l.length ≤ d ∧ d ≤ maxLen ∧ Below w.heap.size w w'

theorem told_nil (w : World) : Told w w (.returned (.slice none 0 0)) [] := ⟨none, 0, rfl, Byt.nil_ _ _, fun _ => rfl, by simp, by unfold maxLen; omega, Below.refl _ _⟩
theorem told_cells (w : World) (l : List UInt8) (n : Nat) (cs : List Value) (hc : Lib.byteCells l = cs) (hn : cs.length = n) (h4 : n ≤ 4) : Told w (w.alloc (.cells cs.toArray 5)) (.returned (.slice (some ⟨w.heap.size, 0, none⟩) n n)) l := by
  subst hc
  rw [Lib.byteCells_length] at hn
  subst hn
  exact ⟨_, _, rfl, byt_lit w l, (fun h => by cases h), Nat.le_refl _, by unfold maxLen; omega, (Below.refl _ _).alloc (Nat.le_refl _) _⟩

set_option maxHeartbeats 2000000 in
theorem bytes_calls (r : Int) (w : World) (h0 : -9223372036854775808 ≤ r) (h1 : r ≤ 9223372036854775807) :
    Calls Tryd.prog 34 #[.int .i64 r] w fun e w' => Told w w' e (bytesL r) := by
  by_cases a : r < 0
  · have e : bytesL r = [] := by simp [bytesL, a]
    rw [e]
    go_enter Tryd.func34, Tryd.ntmps34
    go_wp2
    go_ret
    exact told_nil w
  by_cases b : 1114111 < r
  · have e : bytesL r = [] := by simp [bytesL, b]
    rw [e]
    go_enter Tryd.func34, Tryd.ntmps34
    go_wp2
    go_ret
    exact told_nil w
  by_cases c : 55296 ≤ r ∧ r ≤ 57343
  · have e : bytesL r = [] := by simp [bytesL, c]
    rw [e]
    obtain ⟨c1, c2⟩ := c
    go_enter Tryd.func34, Tryd.ntmps34
    go_wp2
    go_ret
    exact told_nil w
  have e : bytesL r = Lib.encodeRune r := by simp only [bytesL]; rw [if_neg (by omega)]
  rw [e]
  clear e
  have hr : 0 ≤ r := by omega
  have hr2 : r ≤ 1114111 := by omega
  by_cases d : r < 128
  · have hcs : Lib.byteCells (Lib.encodeRune r) = [.int .u8 r] := by rw [Lib.byteCells_encodeRune]; simp [Lib.runeCells, Lib.encodeRuneZ_one hr (by omega)]
    have T := Lib.hid (told_cells w _ 1 _ hcs rfl (by omega))
    clear hcs
    go_enter Tryd.func34, Tryd.ntmps34
    go_wp2
    go_ret
    exact T.out
  by_cases d2 : r < 2048
  · have hcs : Lib.byteCells (Lib.encodeRune r) = [.int .u8 (192 + r / 64), .int .u8 (128 + r % 64)] := by rw [Lib.byteCells_encodeRune]; simp [Lib.runeCells, Lib.encodeRuneZ_two (r := r) (by omega) (by omega)]
    have T := Lib.hid (told_cells w _ 2 _ hcs rfl (by omega))
    clear hcs
    go_enter Tryd.func34, Tryd.ntmps34
    go_wp2
    go_ret
    exact T.out
  by_cases d3 : r < 65536
  · have hcs : Lib.byteCells (Lib.encodeRune r) = [.int .u8 (224 + r / 4096), .int .u8 (128 + r / 64 % 64), .int .u8 (128 + r % 64)] := by rw [Lib.byteCells_encodeRune]; simp [Lib.runeCells, Lib.encodeRuneZ_three (r := r) (by omega)]
    have T := Lib.hid (told_cells w _ 3 _ hcs rfl (by omega))
    clear hcs
    by_cases d4 : r < 55296
    · clear c
      go_enter Tryd.func34, Tryd.ntmps34
      go_wp2
      go_ret
      exact T.out
    · have d5 : 57343 < r := by omega
      clear c
      go_enter Tryd.func34, Tryd.ntmps34
      go_wp2
      go_ret
      exact T.out
  · have hcs : Lib.byteCells (Lib.encodeRune r) = [.int .u8 (240 + r / 262144), .int .u8 (128 + r / 4096 % 64), .int .u8 (128 + r / 64 % 64), .int .u8 (128 + r % 64)] := by rw [Lib.byteCells_encodeRune]; simp [Lib.runeCells, Lib.encodeRuneZ_four (r := r) (by omega) (by omega)]
    have T := Lib.hid (told_cells w _ 4 _ hcs rfl (by omega))
    clear hcs
    have d5 : 57343 < r := by omega
    clear c
    go_enter Tryd.func34, Tryd.ntmps34
    go_wp2
    go_ret
    exact T.out
end Go.Proofs.YtbkejjpkijjfaaaDoor
