/-
  Layer 7 and what it stands on, part 46 ().
-/
import Derived.Test.YteafcaambnfdoaaGreatDoorPi23
import Derived.Test.YteafcaambnfdoaaGreatDoorPi45
import Derived.Test.YteafcaambnfdoaaGreatDoorIter
namespace Go.Proofs.YteafcaambnfdoaaGreatDoor

end Go.Proofs.YteafcaambnfdoaaGreatDoor
