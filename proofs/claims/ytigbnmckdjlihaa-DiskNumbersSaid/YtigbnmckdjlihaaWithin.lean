/-
  engrambook.Within beside the disk's contracts.
-/
import Derived.Test.YtigbnmckdjlihaaKnown
import Derived.Test.YtigbnmckdjlihaaInto
