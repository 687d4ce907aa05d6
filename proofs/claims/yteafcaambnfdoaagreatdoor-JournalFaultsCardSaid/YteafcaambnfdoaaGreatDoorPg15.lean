/-
  Layer 7 and what it stands on, part 15 (ArgGen).
-/
import Derived.Test.YteafcaambnfdoaaGreatDoorPg14
import Derived.Deep.Slices
import Derived.SizedLaws
import Derived.SliceStrings
namespace Go.Proofs.YteafcaambnfdoaaGreatDoor
section
open Go Go.RowKit Go.ChangeShapes Go.WideShapes Go.ChangeAt Go.ChangeMaps Go.Deep
set_option maxRecDepth 100000
theorem spot_none10 {W : World} {a : Addr} {v : Value} (h : W.cell? a = some v) : a.spot = none := by
 unfold World.cell? at h
 split at h
 ·split at h
  ·cases h
  ·rename_i hs
   cases hh : a.spot with
   | none => rfl
   | some x => rw [hh] at hs; exact absurd rfl hs
 ·cases h
theorem cellsI10 : Tryz.prog.cellsOf 3 = 1 := by kernel_rfl
theorem cellsS10 : Tryz.prog.cellsOf 9 = 1 := by kernel_rfl
theorem weightsAll_mem10 {H : Type} {P : Program} {e : TypeId} : ∀ {ds : List (DataW H)} {d : DataW H}, d ∈ ds → ∀ n ∈ d.weights P e, n ∈ DataW.weightsAll P e ds
 | [], _, h, _, _ => by cases h
 | x :: xs, d, h, n, hn => by
  simp only [DataW.weightsAll]
  rcases List.mem_cons.1 h with rfl | h
  ·exact List.mem_append_left _ hn
  ·exact List.mem_append_right _ (weightsAll_mem10 h n hn)
end
end Go.Proofs.YteafcaambnfdoaaGreatDoor
