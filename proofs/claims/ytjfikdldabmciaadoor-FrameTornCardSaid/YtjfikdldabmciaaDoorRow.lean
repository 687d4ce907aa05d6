/-
  Rows that a call owns (Row0), with what is said of slices of bytes (Mem).
-/
import Derived.Test.YtjfikdldabmciaaDoorMem
import Derived.Test.YtjfikdldabmciaaDoorRow0
