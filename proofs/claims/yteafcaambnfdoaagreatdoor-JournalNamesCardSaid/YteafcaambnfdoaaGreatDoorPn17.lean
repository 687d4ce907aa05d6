/-
  Layer 7 and what it stands on, part 17 (FWith0 FCrash0).
-/
import Derived.Test.YteafcaambnfdoaaGreatDoorPn11
import Derived.Laws.Cover1
import Derived.Deep.QuietTactic
import Derived.BigQuiet
namespace Go.Proofs.YteafcaambnfdoaaGreatDoor
section
open Go Go.RowKit
set_option maxRecDepth 100000
def dropV (l : List FileV) (n : ByteArray) : List FileV := l.filter fun v => decide (v.name ≠ n)
def insV (x : FileV) : List FileV → List FileV
  | [] => [x]
  | q :: r => if gtB q.name x.name then x :: q :: r else q :: insV x r
def insVK (p : FileV) (l : List FileV) (k : Nat) : List FileV := if ((l.take k).any fun x => gtB x.name p.name) = true then insV p (l.take k) else l.take k
end
section
open Go Go.RowKit
set_option maxRecDepth 100000
abbrev boolC (b : Bool) : List Value := [.bool b]
theorem bool_at {w : World} {D : Nat → Prop} {A : Option Addr} {l : List Bool} (h : RowT boolC w D A l) {i : Nat} (hi : i < l.length) : ∃ g o, A = some ⟨g, o, none⟩ ∧ g < w.heap.size ∧ w.cell? ⟨g, o + i, none⟩ = some (.bool (l.getD i false)) := by
  obtain ⟨g, o, e, _, hg, hc⟩ := h (by omega)
  refine ⟨g, o, e, hg, ?_⟩
  have := hc (i * 1 + 0) _ (flat_get (C := boolC) (k := 1) (fun _ => rfl) (List.getElem?_eq_getElem hi) (j := 0) rfl)
  rw [Nat.mul_one, Nat.add_zero] at this
  rw [this, List.getD_eq_getElem?_getD, List.getElem?_eq_getElem hi]
  rfl
/-- Bytes behind j of a row's writes, those that are kept. -/
def crJ (q : PartF → Bool) (f : FileF) (j : Nat) : List UInt8 := ((f.row.take j).filter q).foldl overL f.b
end
end Go.Proofs.YteafcaambnfdoaaGreatDoor
