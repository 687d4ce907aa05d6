/-
  Layer 7 and what it stands on, part 45 ().
-/
import Derived.Test.YteafcaambnfdoaaGreatDoorPi8
import Derived.Test.YteafcaambnfdoaaGreatDoorPi12
import Derived.Maps.OwnSet
import Derived.Sort.KeysCollected
namespace Go.Proofs.YteafcaambnfdoaaGreatDoor

end Go.Proofs.YteafcaambnfdoaaGreatDoor
