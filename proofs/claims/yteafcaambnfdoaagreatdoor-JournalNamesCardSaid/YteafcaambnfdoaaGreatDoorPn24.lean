/-
  Layer 7 and what it stands on, part 24 (RefRunes RPlain).
-/
import Derived.Test.YteafcaambnfdoaaGreatDoorPn9
import Derived.Test.YteafcaambnfdoaaGreatDoorPn23
namespace Go.Proofs.YteafcaambnfdoaaGreatDoor
section
open Go Go.RowKit
/-- What stands at a round's head: l is left, acc was told. -/
def RunesL (w : World) (l0 : List UInt8) (v0 v3 : Value) (wr : World) (A : Option Addr) (c : Nat) (l : List UInt8) (acc : List Nat) : Prop :=
  v0 = .slice A l.length c ∧ l.length ≤ c ∧ c ≤ maxLen ∧ Byt w A l ∧ wr.ownsRow w.heap.size 3 1 v3 acc.length (cells64 acc) ∧ Below w.heap.size w wr ∧ acc.length + l.length ≤ l0.length ∧ acc ++ runes l = runes l0
end
section
open Go Go.RowKit
/-- What stands at a round's head. -/
def PlainAt (w1 : World) (rs : List Nat) (v3 v5 : Value) (wr : World) (k : Nat) : Prop :=
  k ≤ rs.length ∧ v5 = .int .i64 (k : Int) ∧ wr.ownsRow w1.heap.size 5 1 v3 (encL ((rs.take k).flatMap plR)).length (Lib.byteCells (encL ((rs.take k).flatMap plR))) ∧ Below w1.heap.size w1 wr
end
end Go.Proofs.YteafcaambnfdoaaGreatDoor
