/-
  Layer 7 and what it stands on, part 14 ().
-/
import Derived.Test.YteafcaambnfdoaaGreatDoorPg8
import Derived.ProofKit
import Derived.OpenShut
import Derived.ChangeMaps5
import Derived.Deep.DeepHandedRow
import Derived.Lib.SlBytesRowKit
namespace Go.Proofs.YteafcaambnfdoaaGreatDoor

end Go.Proofs.YteafcaambnfdoaaGreatDoor
