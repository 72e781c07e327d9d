/-
  What the rows of layer 6 lean on.
-/
import Derived.Test.YtoedkomckgidiaaCT
import Derived.Test.YtoedkomckgidiaaCU
import Derived.Test.YtoedkomckgidiaaCX
import Derived.Test.YtoedkomckgidiaaCY
