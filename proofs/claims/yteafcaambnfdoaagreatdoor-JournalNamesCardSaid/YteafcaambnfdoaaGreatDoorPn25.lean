/-
  Layer 7 and what it stands on, part 25 (RJRight RJSame).
-/
import Derived.Test.YteafcaambnfdoaaGreatDoorPn10
import Derived.Test.YteafcaambnfdoaaGreatDoorPn24
import Derived.Deep.RegionHeld3
import Derived.Deep.Cut
import Derived.BigQuiet
import Derived.Laws.StructEq
namespace Go.Proofs.YteafcaambnfdoaaGreatDoor
section
open Go Go.RowKit
set_option maxRecDepth 100000
abbrev enC (e : EnJ) : List Value := [.int .i64 e.t, .string (bs e.d), .string (bs e.c)]
end
section
open Go Go.RowKit
set_option maxRecDepth 100000
theorem enC_length (e : EnJ) : (enC e).length = 3 := rfl
/-- The cells of entry k. -/
theorem en_at {w : World} {D : Nat → Prop} {A : Option Addr} {vs : List EnJ} (h : RowT enC w D A vs) {k : Nat} {v : EnJ} (hq : vs[k]? = some v) : ∃ g o, A = some ⟨g, o, none⟩ ∧ D g ∧ g < w.heap.size ∧ w.cell? ⟨g, o + k * 3, none⟩ = some (.int .i64 v.t) ∧
    w.cell? ⟨g, o + k * 3 + 1, none⟩ = some (.string (bs v.d)) ∧ w.cell? ⟨g, o + k * 3 + 2, none⟩ = some (.string (bs v.c)) := by
  have hk : k < vs.length := (List.getElem?_eq_some_iff.1 hq).1
  obtain ⟨g, o, e, hD, hg, hc⟩ := h (by omega)
  refine ⟨g, o, e, hD, hg, ?_, ?_, ?_⟩
  · have := hc (k * 3 + 0) _ (flat_get enC_length hq (j := 0) rfl)
    simpa using this
  · have := hc (k * 3 + 1) _ (flat_get enC_length hq (j := 1) rfl)
    rw [Nat.add_assoc]
    exact this
  · have := hc (k * 3 + 2) _ (flat_get enC_length hq (j := 2) rfl)
    rw [Nat.add_assoc]
    exact this
end
end Go.Proofs.YteafcaambnfdoaaGreatDoor
