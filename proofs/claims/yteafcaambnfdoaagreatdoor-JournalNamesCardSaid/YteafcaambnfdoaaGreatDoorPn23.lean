/-
  Layer 7 and what it stands on, part 23 (RefB RefNext).
-/
import Derived.Test.YteafcaambnfdoaaGreatDoorPn6
import Derived.Test.YteafcaambnfdoaaGreatDoorChecked
import Derived.Deep.QuietTactic
import Derived.BigQuiet
import Derived.OwnWalk
namespace Go.Proofs.YteafcaambnfdoaaGreatDoor
section
open Go Go.RowKit
/-- A slice of bytes that was told: where it lies, and how it reads. -/
def Told (w w' : World) (e : Ending) (l : List UInt8) : Prop := ∃ A d, e = .returned (.slice A l.length d) ∧ Byt w' A l ∧ (A = none → d = 0) ∧ l.length ≤ d ∧ d ≤ maxLen ∧ Below w.heap.size w w'
end
section
open Go Go.RowKit
/-- What is told of the first sign. -/
def ToldNext (w w' : World) (e : Ending) (l : List UInt8) : Prop := e = .returned (.tuple #[.int .i64 ((nextL l).1 : Int), .int .i64 ((nextL l).2 : Int)]) ∧ Below w.heap.size w w'
end
end Go.Proofs.YteafcaambnfdoaaGreatDoor
