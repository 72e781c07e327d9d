/-
  What the row of CodeTorn leans on.
-/
import Derived.Test.YtoedkomckgidiaaCZ
import Derived.Test.YtoedkomckgidiaaCU
