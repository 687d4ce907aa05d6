/-
  Rows of texts.
-/
import Derived.Test.YtifdgaklchihbaaDoorRow
namespace Go.Proofs.YtifdgaklchihbaaDoor
open Go Go.RowKit

theorem infoS : (Tryd.prog.info? 9).map (fun i => (i.zero, i.size, i.bytes)) = some (some (.string ⟨#[]⟩), 1, 16) := by kernel_rfl
/-- Texts as cells. -/
def cellsS (ls : List ByteArray) : List Value := ls.map Value.string
theorem cellsS_length (ls : List ByteArray) : (cellsS ls).length = ls.length := by simp [cellsS]
theorem cellsS_snoc (ls : List ByteArray) (s : ByteArray) : cellsS (ls ++ [s]) = cellsS ls ++ [.string s] := by simp [cellsS]
/-- A slice of texts that reads as ls. -/
def RdS (w : World) (A : Option Addr) (ls : List ByteArray) : Prop := 0 < ls.length → ∃ g o, A = some ⟨g, o, none⟩ ∧ g < w.heap.size ∧ ∀ i, i < ls.length → w.cell? ⟨g, o + i, none⟩ = some (.string (ls.getD i ⟨#[]⟩))
theorem RdS.below {w w' : World} {A : Option Addr} {ls : List ByteArray} (h : RdS w A ls) (hb : Below w.heap.size w w') : RdS w' A ls := fun hn => by
  obtain ⟨g, o, e, hg, hc⟩ := h hn
  exact ⟨g, o, e, Nat.lt_of_lt_of_le hg hb.size, fun i hi => by rw [hb.cell (p := ⟨g, o + i, none⟩) hg]; exact hc i hi⟩
theorem rdS_of_own {w : World} {base : Nat} {A : Option Addr} {c n : Nat} {ls : List ByteArray} (h : w.ownsRow base 9 1 (.slice A n c) ls.length (cellsS ls)) : RdS w A ls ∧ n = ls.length ∧ ls.length ≤ c ∧ c ≤ maxLen := by
  rcases h.2 with ⟨hv, h0⟩ | ⟨g, cap, cur, hv, _, hh, hnc, hcm, _⟩
  · injection hv with h1 h2 h3
    subst h1; subst h2; subst h3
    exact ⟨fun hn => by omega, h0.symm, by omega, by unfold maxLen; omega⟩
  · injection hv with h1 h2 h3
    subst h1; subst h2; subst h3
    refine ⟨fun hn => ⟨g, 0, rfl, (Array.getElem?_eq_some_iff.1 hh).1, fun i hi => ?_⟩, rfl, hnc, hcm⟩
    have := h.cells (g := g) rfl i (.string (ls.getD i ⟨#[]⟩)) (by simp [cellsS, hi, List.getD])
    rw [Addr.add_lit] at this
    exact this
end Go.Proofs.YtifdgaklchihbaaDoor
