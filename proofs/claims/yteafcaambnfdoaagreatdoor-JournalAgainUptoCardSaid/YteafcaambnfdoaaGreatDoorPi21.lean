/-
  Layer 7 and what it stands on, part 21 (ArgBool).
-/
import Derived.Test.YteafcaambnfdoaaGreatDoorPi16
import Derived.Test.YteafcaambnfdoaaGreatDoorPi20
namespace Go.Proofs.YteafcaambnfdoaaGreatDoor
section
open Go Go.RowKit Go.ChangeShapes Go.WideShapes Go.ChangeAt Go.ChangeMaps Go.Deep
set_option maxRecDepth 100000
theorem cellsBool10 : Tryz.prog.cellsOf 4 = 1 := by kernel_rfl
theorem opened_bools {H : Type} {enc : TypeId × Value → H} {W : World} {a0 : Option Addr} {len cap : Nat} {d0 : DataW H} {p : List MemPlace}
  (h0 : DataW.Trod enc Tryz.prog W 0 (fun _ => true) true 31 (.slice a0 len cap) d0 p) :
  ∃ l : List Bool, l.length = len ∧ len ≤ cap ∧ cap ≤ maxLen ∧ RowT boolC W (fun _ => True) a0 l := by
 obtain ⟨fuel, hf⟩ := h0
 rcases Go.Deep.open_slice Tryz.underlying31 hf with ⟨hcs, _⟩ | ⟨a, len', cap', m, n, D, Pl, hcs, _, hl, hm, hmm, hx, hi⟩
 ·simp [Value.cells] at hcs
  obtain ⟨rfl, rfl, rfl⟩ := hcs
  exact ⟨[], rfl, by omega, by unfold maxLen; omega, fun hn => by simp at hn⟩
 ·simp [Value.cells] at hcs
  obtain ⟨rfl, rfl, rfl⟩ := hcs
  simp only [if_true] at hmm
  have each : ∀ i, i < len → ∃ b : Bool, W.cell? ((a.add (i * 1)).add 0) = some (.bool b) := fun i hil => by
   obtain ⟨cs', hc, ht⟩ := hi i (by omega)
   rw [cellsBool10] at hc
   obtain ⟨_, _, hat⟩ := World.cells?_some hc
   obtain ⟨t, ht2, _⟩ := DataW.trod_bool Tryz.underlying4 ht
   subst ht2
   exact ⟨t, by rw [hat 0 (by omega)]; rfl⟩
  let f : Nat → Bool := fun i => if h : i < len then Classical.choose (each i h) else false
  have hf2 : ∀ i, i < len → W.cell? ((a.add (i * 1)).add 0) = some (.bool (f i)) := fun i h => by
   have := Classical.choose_spec (each i h)
   simp only [f, dif_pos h]
   exact this
  refine ⟨(List.range len).map f, by simp, hl, hm, fun hn => ?_⟩
  simp only [List.length_map, List.length_range] at hn
  have h00 := hf2 0 hn
  have hs := spot_none10 h00
  obtain ⟨b, o, s⟩ := a
  have hs' : s = none := by simpa [Addr.add] using hs
  subst hs'
  refine ⟨b, o, rfl, trivial, ?_, fun j v hj => ?_⟩
  ·simpa [Addr.add] using World.block_lt_of_cell? _ _ h00
  ·have hj2 : j < len := by
    have := (List.getElem?_eq_some_iff.1 hj).1
    rw [flat_length (C := boolC) (k := 1) (fun _ => rfl), List.length_map, List.length_range] at this
    omega
   have h1 := hf2 j hj2
   rw [Addr.add_lit, Addr.add_lit] at h1
   have h2 : v = .bool (f j) := by
    rw [List.flatMap_map] at hj
    have : ((List.range len).flatMap fun a => boolC (f a)) = (List.range len).map fun a => Value.bool (f a) := by
     rw [List.map_eq_flatMap]
    rw [this] at hj
    simp [hj2] at hj
    exact hj.symm
   rw [h2]
   simpa using h1
theorem cellsB10 : Tryz.prog.cellsOf 30 = 1 := by kernel_rfl
theorem cellsK10 : Tryz.prog.cellsOf 31 = 1 := by kernel_rfl
end
end Go.Proofs.YteafcaambnfdoaaGreatDoor
