/-
  Package frame's contracts, and the law's alive, gathered (layer 11).
-/
import Derived.Test.YtjfikdldabmciaaDoorFrAlive
