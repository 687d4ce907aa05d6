/-
  Layer 7 and what it stands on, part 38 ().
-/
import Derived.Test.YteafcaambnfdoaaGreatDoorPg15
import Derived.Test.YteafcaambnfdoaaGreatDoorPg23
namespace Go.Proofs.YteafcaambnfdoaaGreatDoor

end Go.Proofs.YteafcaambnfdoaaGreatDoor
