/-
  Layer 7 and what it stands on, part 36 (StrV).
-/
import Derived.Test.YtoaponaljkhlfaaDoorPk9
import Derived.Test.YtoaponaljkhlfaaDoorPk10
import Derived.Deep.Slices
import Derived.IntWalk
import Derived.SizedLaws
import Derived.SliceStrings
import Derived.ProofKit
import Derived.OpenShut
import Derived.ChangeMaps5
import Derived.Deep.DeepHandedRow
namespace Go.Proofs.YtoaponaljkhlfaaDoor
section
open Go Go.RowKit Go.ChangeShapes Go.WideShapes Go.ChangeAt Go.ChangeMaps Go.Deep
theorem spot_noneS {W : World} {a : Addr} {v : Value} (h : W.cell? a = some v) : a.spot = none := by
  unfold World.cell? at h
  split at h
  · split at h
    · cases h
    · rename_i hs
      cases hh : a.spot with
      | none => rfl
      | some x => rw [hh] at hs; exact absurd rfl hs
  · cases h
theorem cellsSV : Tryd.prog.cellsOf 9 = 1 := by kernel_rfl
theorem opened_strsV {H : Type} {enc : TypeId × Value → H} {W : World} {a0 : Option Addr} {len cap : Nat} {d0 : DataW H} {p : List MemPlace}
    (h0 : DataW.Trod enc Tryd.prog W 0 (fun _ => true) true 33 (.slice a0 len cap) d0 p) :
    ∃ zs : List ByteArray, zs.length = len ∧ len ≤ cap ∧ cap ≤ maxLen ∧ RdV Value.string W a0 zs ∧ ∀ s ∈ zs, s.size ≤ maxLen := by
  obtain ⟨fuel, hf⟩ := h0
  rcases open_strings Tryd.underlying33 Tryd.underlying9 cellsSV hf with ⟨hcs, _⟩ | ⟨a, len', cap', zs, hcs, _, hl, hm, hz, _, hcell, hmx⟩
  · simp [Value.cells] at hcs
    obtain ⟨rfl, rfl, rfl⟩ := hcs
    exact ⟨[], rfl, by omega, by unfold maxLen; omega, fun hn => (by simp at hn), fun s hs => by cases hs⟩
  · simp [Value.cells] at hcs
    obtain ⟨rfl, rfl, rfl⟩ := hcs
    simp only [if_true] at hz
    refine ⟨zs.take len, by simp; omega, by omega, hm, fun hn => ?_, fun s hs => hmx s (List.mem_of_mem_take hs)⟩
    simp only [List.length_take] at hn
    have h0 := hcell 0 (by omega)
    have hs := spot_noneS h0
    obtain ⟨b, o, s⟩ := a
    have hs' : s = none := by simpa [Addr.add] using hs
    subst hs'
    refine ⟨b, o, rfl, ?_, fun i x hi => ?_⟩
    · simpa [Addr.add] using World.block_lt_of_cell? _ _ h0
    · have hi2 := (List.getElem?_eq_some_iff.1 hi).1
      simp only [List.length_take] at hi2
      have := hcell i (by omega)
      rw [Addr.add_lit] at this
      rw [this]
      rw [List.getElem?_take, if_pos (by omega)] at hi
      simp [List.getD, hi]
end
end Go.Proofs.YtoaponaljkhlfaaDoor
