/-
  Joint import.
-/
import Derived.Test.YtdlhaadnfmpldaaDoorMTB
import Derived.Test.YtdlhaadnfmpldaaDoorMTD
