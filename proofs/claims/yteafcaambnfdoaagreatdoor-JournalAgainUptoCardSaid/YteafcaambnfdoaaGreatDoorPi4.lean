/-
  Layer 7 and what it stands on, part 4 (SLaid1).
-/
import Derived.Test.YteafcaambnfdoaaGreatDoorPi3
import Derived.Test.YteafcaambnfdoaaGreatDoorCards
import Derived.Test.YteafcaambnfdoaaGreatDoorTie
import Derived.ProofKit
import Derived.OpenShut
import Derived.ChangeMaps5
import Derived.Deep.DeepHandedRow
import Derived.Lib.LaidU8
import Derived.PinnedBridge
namespace Go.Proofs.YteafcaambnfdoaaGreatDoor
section
open Go Go.RowKit Go.ChangeShapes Go.WideShapes Go.ChangeAt
set_option maxRecDepth 100000
theorem own : ownKnob Tryz.prog.godebug = none := by kernel_rfl
theorem laidOut : laidOutB Tryz.prog = true := by kernel_rfl
theorem cellsU32 : Tryz.prog.cellsOf 159 = 1 := by kernel_rfl
theorem cellsFours : Tryz.prog.cellsOf 205 = 16 := by kernel_rfl
theorem nFours : Tryz.prog.globalNamed "souffleur/sum.rests" = some 0 := by kernel_rfl
theorem yFours : (Tryz.prog.globals[0]?).map (·.type) = some 205 := by kernel_rfl
abbrev laidList : List (String × DataW Unit) := [("souffleur/sum.rests", Rows.laid_souffleur_sum_rests)]
theorem fours_eq : (Rows.laid_souffleur_sum_rests : DataW Unit) = .agg ((fours.map fun (v : BitVec 32) => (v.toNat : Int)).map fun z => .lit (.int .u32 z)) := by kernel_rfl
theorem lays_of_laid {W : World} (h : laidMetH Tryz.prog laidList W) : LaysR W := by
 have h' : laidMet Tryz.prog laidList W := h
 have r1 := Lib.laidMet.reads h' (n := "souffleur/sum.rests") (d := Rows.laid_souffleur_sum_rests) (by simp)
 rw [fours_eq] at r1
 intro x hx
 obtain ⟨g, t, cs, fuel, p, hg, hty, hvar, hd⟩ := r1
 obtain rfl := Option.some.inj (nFours.symm.trans hg)
 obtain rfl := Option.some.inj (yFours.symm.trans hty)
 have hcs := Lib.cells_of_tab (k := .u32) (zs := fours.map fun (v : BitVec 32) => (v.toNat : Int)) Tryz.underlying205 Tryz.underlying159 cellsU32 cellsFours hd
 have hl : fours.length = 16 := rfl
 have hf := four_at ⟨x, hx⟩
 rw [World.var?_cell hg hvar x, ← Array.getElem?_toList, hcs]
 rw [← hf, List.getD_eq_getElem?_getD]
 simp [hl, hx]
def foursCells : Array Value := (fours.map fun (v : BitVec 32) => Value.int .u32 (v.toNat : Int)).toArray
def layCells (cs : Array Value) : Obj → Obj
 | .cells _ t frozen => .cells cs t frozen
 | o => o
noncomputable def laidWorld (os : Os) : World :=
 { World.holding Tryz.prog os ⟨#[], #[], []⟩ with heap := (World.holding Tryz.prog os ⟨#[], #[], []⟩).heap.modify 0 (layCells foursCells) }
end
end Go.Proofs.YteafcaambnfdoaaGreatDoor
