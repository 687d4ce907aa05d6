/-
  sign.Next: what the call comes to, in any memory.
-/
import Derived.Test.YtbkejjpkijjfaaaDoorRow
import Derived.Test.YtbkejjpkijjfaaaDoorChecked
import Derived.Outline
namespace Go.Proofs.YtbkejjpkijjfaaaDoor
open Go Go.RowKit

set_option maxRecDepth 100000 in
set_option maxHeartbeats 1000000 in
theorem next_core (A : Option Addr) (n c : Nat) (s : ByteArray) (w : World) (hc : n ≤ c) (_hm : c ≤ 9223372036854775807)
    (hconv : (convert 27 9 (.slice A (min (n : Int) 4).toNat c)).run Tryd.prog w = .ok (.string s) w) (hs : s.size ≤ 4) (hw : (Utf8.decode s 0).2 ≤ s.size ∨ s.size = 0) :
    Calls Tryd.prog 45 #[.slice A n c] w fun e w' => e = .returned (.tuple #[.int .i32 (if s.size = 0 then 0 else (Utf8.decode s 0).1 : Nat), .int .i64 (if s.size = 0 then 0 else (Utf8.decode s 0).2 : Nat)]) ∧ Below w.heap.size w w' := by
  go_enter Tryd.func45, Tryd.ntmps45
  go_wp2_with fail
  go_loopw [2] (fun r wr => ∃ pos : Nat, wr = w.iter s pos ∧ ((pos = 0 ∧ r = .int .i32 0) ∨ (0 < pos ∧ 0 < s.size ∧ pos = (Utf8.decode s 0).2 ∧ r = .int .i32 ((Utf8.decode s 0).1 : Nat)))) (fun _ wr => s.size - wr.iterPos w.heap.size)
  case atStart => exact ⟨0, rfl, .inl ⟨rfl, rfl⟩⟩
  case round =>
    obtain ⟨pos, rfl, h | h⟩ := hrel
    · obtain ⟨rfl, rfl⟩ := h
      by_cases hp : 0 < s.size
      · have hnx : ∀ ty, (Instr.next (.pointer (some ⟨w.heap.size, 0, none⟩)) true ty).run Tryd.prog (w.iter s 0) = _ := fun ty => run_next_any w s 0 ty hp
        have hwd := Lib.width_pos s 0
        go_wp2
        go_roundw
        case rel => exact ⟨(Utf8.decode s 0).2, rfl, .inr ⟨by omega, hp, rfl, rfl⟩⟩
        case measure => simp; omega
      · have hnx : ∀ ty, (Instr.next (.pointer (some ⟨w.heap.size, 0, none⟩)) true ty).run Tryd.prog (w.iter s 0) = _ := fun ty => run_next_end w s 0 ty hp
        go_wp2
        go_ret2
        exact ⟨by simp, below_iter _ _ _⟩
    · obtain ⟨h0, h1, rfl, rfl⟩ := h
      have hz : ¬ s.size = 0 := by omega
      by_cases hp : (Utf8.decode s 0).2 < s.size
      · have hnx : ∀ ty, (Instr.next (.pointer (some ⟨w.heap.size, 0, none⟩)) true ty).run Tryd.prog (w.iter s (Utf8.decode s 0).2) = _ := fun ty => run_next_any w s _ ty hp
        go_wp2
        go_ret2
        exact ⟨by simp, below_iter _ _ _⟩
      · have hnx : ∀ ty, (Instr.next (.pointer (some ⟨w.heap.size, 0, none⟩)) true ty).run Tryd.prog (w.iter s (Utf8.decode s 0).2) = _ := fun ty => run_next_end w s _ ty hp
        go_wp2
        go_ret2
        have he : (Utf8.decode s 0).2 = s.size := by omega
        exact ⟨by simp [he], below_iter _ _ _⟩

theorem next_calls (A : Option Addr) (c : Nat) (l : List UInt8) (w : World) (hb : Byt w A l) (hc : l.length ≤ c) (hm : c ≤ maxLen) :
    Calls Tryd.prog 45 #[.slice A l.length c] w fun e w' => e = .returned (.tuple #[.int .i32 ((nextL l).1 : Int), .int .i64 ((nextL l).2 : Int)]) ∧ Below w.heap.size w w' := by
  unfold maxLen at hm
  have hconv := (hb.take 4).convert (P := Tryd.prog) c 27 5 9 Tryd.underlying27 Tryd.underlying5 Tryd.underlying9 (min (l.length : Int) 4).toNat (by rw [List.length_take]; omega)
  have hsz : (⟨(l.take 4).toArray⟩ : ByteArray).size = min 4 l.length := by simp [ByteArray.size]
  have hdec : Utf8.decode ⟨(l.take 4).toArray⟩ 0 = Lib.decodeL (l.take 4) := by rw [← Lib.decodeL_drop]; simp
  rw [decodeL_take] at hdec
  refine (next_core A l.length c _ w hc (by omega) hconv (by omega) ?_).mono ?_
  · rw [hdec, hsz]
    by_cases hl : l = []
    · subst hl; right; rfl
    · left
      have h1 := Lib.decodeL_le l hl
      have h2 := decodeL_le4 l
      omega
  · rintro e w' ⟨rfl, h⟩
    refine ⟨?_, h⟩
    rw [hdec, hsz]
    by_cases hl : l = []
    · subst hl; rfl
    · have h0 : 0 < l.length := by cases l <;> simp_all
      rw [if_neg (by omega), if_neg (by omega)]
      simp [nextL, hl]
end Go.Proofs.YtbkejjpkijjfaaaDoor
