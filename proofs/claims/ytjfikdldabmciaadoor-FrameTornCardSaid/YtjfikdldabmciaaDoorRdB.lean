/-
  Slices of slices of bytes that read as rows of bytes.
-/
import Derived.Test.YtjfikdldabmciaaDoorMem
namespace Go.Proofs.YtjfikdldabmciaaDoor
open Go Go.RowKit

/-- A slice of slices of bytes that reads as rows of bytes. -/
def RdBs (w : World) (A : Option Addr) (ls : List (List UInt8)) : Prop := 0 < ls.length → ∃ g o, A = some ⟨g, o, none⟩ ∧ g < w.heap.size ∧ ∀ i l, ls[i]? = some l → ∃ Ai ci, w.cell? ⟨g, o + i, none⟩ = some (.slice Ai l.length ci) ∧ Byt w Ai l ∧ (Ai = none → ci = 0)
theorem RdBs.below {w w' : World} {A : Option Addr} {ls : List (List UInt8)} (h : RdBs w A ls) (hb : Below w.heap.size w w') : RdBs w' A ls := fun hn => by
  obtain ⟨g, o, e, hg, hc⟩ := h hn
  refine ⟨g, o, e, Nat.lt_of_lt_of_le hg hb.size, fun i l hi => ?_⟩
  obtain ⟨Ai, ci, h1, h2, h3⟩ := hc i l hi
  exact ⟨Ai, ci, (hb.cell (p := ⟨g, o + i, none⟩) hg).trans h1, h2.below hb, h3⟩
theorem flat_succ {ls : List (List UInt8)} {k : Nat} {l : List UInt8} (h : ls[k]? = some l) : (ls.take (k + 1)).flatten = (ls.take k).flatten ++ l := by
  rw [List.take_add_one, h, Option.toList_some, List.flatten_append, List.flatten_singleton]
end Go.Proofs.YtjfikdldabmciaaDoor
