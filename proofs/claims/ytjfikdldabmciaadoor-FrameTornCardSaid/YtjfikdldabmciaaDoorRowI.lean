/-
  Rows of ints.
-/
import Derived.Test.YtjfikdldabmciaaDoorRow
namespace Go.Proofs.YtjfikdldabmciaaDoor
open Go Go.RowKit

theorem info64 : (Tryd.prog.info? 3).map (fun i => (i.zero, i.size, i.bytes)) = some (some (.int .i64 0), 1, 8) := by kernel_rfl
/-- Signs as cells of ints. -/
def cells64 (rs : List Nat) : List Value := rs.map fun (r : Nat) => Value.int .i64 (r : Int)
theorem cells64_length (rs : List Nat) : (cells64 rs).length = rs.length := by simp [cells64]
theorem cells64_snoc (rs : List Nat) (r : Nat) : cells64 (rs ++ [r]) = cells64 rs ++ [.int .i64 (r : Int)] := by simp [cells64]
def Rd64 (w : World) (A : Option Addr) (rs : List Nat) : Prop := 0 < rs.length → ∃ g o, A = some ⟨g, o, none⟩ ∧ g < w.heap.size ∧ ∀ i, i < rs.length → w.cell? ⟨g, o + i, none⟩ = some (.int .i64 ((rs.getD i 0 : Nat) : Int))
theorem Rd64.below {w w' : World} {A : Option Addr} {rs : List Nat} (h : Rd64 w A rs) (hb : Below w.heap.size w w') : Rd64 w' A rs := fun hn => by
  obtain ⟨g, o, e, hg, hc⟩ := h hn
  exact ⟨g, o, e, Nat.lt_of_lt_of_le hg hb.size, fun i hi => by rw [hb.cell (p := ⟨g, o + i, none⟩) hg]; exact hc i hi⟩
theorem rd64_of_own {w : World} {base : Nat} {A : Option Addr} {c n : Nat} {rs : List Nat} (h : w.ownsRow base 3 1 (.slice A n c) rs.length (cells64 rs)) : Rd64 w A rs ∧ n = rs.length ∧ rs.length ≤ c ∧ c ≤ maxLen := by
  rcases h.2 with ⟨hv, h0⟩ | ⟨g, cap, cur, hv, _, hh, hnc, hcm, _⟩
  · injection hv with h1 h2 h3
    subst h1; subst h2; subst h3
    exact ⟨fun hn => by omega, h0.symm, by omega, by unfold maxLen; omega⟩
  · injection hv with h1 h2 h3
    subst h1; subst h2; subst h3
    refine ⟨fun hn => ⟨g, 0, rfl, (Array.getElem?_eq_some_iff.1 hh).1, fun i hi => ?_⟩, rfl, hnc, hcm⟩
    have := h.cells (g := g) rfl i (.int .i64 ((rs.getD i 0 : Nat) : Int)) (by simp [cells64, hi, List.getD])
    rw [Addr.add_lit] at this
    exact this
end Go.Proofs.YtjfikdldabmciaaDoor
