/-
  A log that a statement has made, called.
-/
import Derived.Test.YtgcafmofpflidaaUDoes
import Derived.Test.YtgcafmofpflidaaUAlive
namespace Go.Proofs.Ytgcafmofpflidaa
open Go Go.RowKit

section
variable {w W : World} {b : Nat} {s : LS ByteArray}
theorem inU_does (h : InUS w W b s) (o : OpU) : Calls Try.prog 14 #[.pointer (some ⟨b, 0, none⟩), .agg #[.int .i64 o.k, .string o.t, .int .i64 o.g]] W fun e W' => ∃ b', e = .returned (.tuple #[.pointer (some ⟨b', 0, none⟩), .string (doU s o).now, .bool (didU s o)]) ∧ InUS w W' b' (doU s o) := by
  obtain ⟨R, a1, a2, a3⟩ := h
  refine (does_callsU W R b s a1 o).mono ?_
  rintro e W' ⟨b', rfl, ht⟩
  exact ⟨b', rfl, ht.inn a2 a3⟩
theorem inU_now (h : InUS w W b s) : Calls Try.prog 19 #[.pointer (some ⟨b, 0, none⟩)] W fun e W' => e = .returned (.string s.now) ∧ InUS w W' b s := h.read objS (fun R hR => now_callsUS _ R b _ hR)
theorem inU_do (h : InUS w W b s) (x : ByteArray) (g : Int) : Calls Try.prog 20 #[.pointer (some ⟨b, 0, none⟩), .string x, .int .i64 g] W fun e W' => e = .returned (.bool (decide (x ≠ s.now))) ∧ InUS w W' b (s.does x g) := h.step (fun R hR => do_callsUS _ R b _ hR x g)
theorem inU_len (h : InUS w W b s) : Calls Try.prog 21 #[.pointer (some ⟨b, 0, none⟩)] W fun e W' => e = .returned (.tuple #[.int .i64 (s.back.length : Int), .int .i64 (s.forth.length : Int)]) ∧ InUS w W' b s := h.read objS (fun R hR => len_callsUS _ R b _ hR)
theorem inU_undo (h : InUS w W b s) (hb : s.back ≠ []) : Calls Try.prog 17 #[.pointer (some ⟨b, 0, none⟩)] W fun e W' => e = .returned (.tuple #[.string s.undo.now, .bool true]) ∧ InUS w W' b s.undo := by
  have := h.step (fun R hR => undo_callsUS _ R b _ hR)
  rwa [show decide (s.back ≠ []) = true from decide_eq_true hb] at this
theorem inU_undo0 (h : InUS w W b s) (hb : s.back = []) : Calls Try.prog 17 #[.pointer (some ⟨b, 0, none⟩)] W fun e W' => e = .returned (.tuple #[.string s.now, .bool false]) ∧ InUS w W' b s := by
  have := h.step (fun R hR => undo_callsUS _ R b _ hR)
  rwa [show decide (s.back ≠ []) = false from decide_eq_false (fun h => h hb), show s.undo = s by unfold LS.undo; rw [if_pos hb]] at this
theorem inU_redo (h : InUS w W b s) (hb : s.forth ≠ []) : Calls Try.prog 18 #[.pointer (some ⟨b, 0, none⟩)] W fun e W' => e = .returned (.tuple #[.string s.redo.now, .bool true]) ∧ InUS w W' b s.redo := by
  have := h.step (fun R hR => redo_callsUS _ R b _ hR)
  rwa [show decide (s.forth ≠ []) = true from decide_eq_true hb] at this
theorem inU_redo0 (h : InUS w W b s) (hb : s.forth = []) : Calls Try.prog 18 #[.pointer (some ⟨b, 0, none⟩)] W fun e W' => e = .returned (.tuple #[.string s.now, .bool false]) ∧ InUS w W' b s := by
  have := h.step (fun R hR => redo_callsUS _ R b _ hR)
  rwa [show decide (s.forth ≠ []) = false from decide_eq_false (fun h => h hb), show s.redo = s by unfold LS.redo; rw [if_pos hb]] at this
/-- The same state, no group open. -/
def shut (s : LS ByteArray) : LS ByteArray := ⟨s.lim, s.back, s.now, s.forth, 0⟩
theorem inU_back (h : InUS w W b s.undo) (hb : s.back ≠ []) : Calls Try.prog 18 #[.pointer (some ⟨b, 0, none⟩)] W fun e W' => e = .returned (.tuple #[.string s.now, .bool true]) ∧ InUS w W' b (shut s) := by
  have hf : s.undo.forth ≠ [] := by
    obtain ⟨r, y, hr⟩ : ∃ r y, s.back = r ++ [y] := ⟨_, _, (List.dropLast_concat_getLast hb).symm⟩
    rw [LS.undo_some hr]; simp
  have := inU_redo h hf
  rwa [LS.redo_undo hb] at this
theorem inU_forth (h : InUS w W b s.redo) (hb : s.forth ≠ []) : Calls Try.prog 17 #[.pointer (some ⟨b, 0, none⟩)] W fun e W' => e = .returned (.tuple #[.string s.now, .bool true]) ∧ InUS w W' b (shut s) := by
  have hf : s.redo.back ≠ [] := by
    obtain ⟨r, y, hr⟩ : ∃ r y, s.forth = r ++ [y] := ⟨_, _, (List.dropLast_concat_getLast hb).symm⟩
    rw [LS.redo_some hr]; simp
  have := inU_undo h hf
  rwa [LS.undo_redo hb] at this
end
end Go.Proofs.Ytgcafmofpflidaa
