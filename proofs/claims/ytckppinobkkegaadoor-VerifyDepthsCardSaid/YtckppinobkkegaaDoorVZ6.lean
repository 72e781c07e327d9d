/-
  Layer 7: the laws, arguments and listed variables, together.
-/
import Derived.Test.YtckppinobkkegaaDoorVZ3
import Derived.Test.YtckppinobkkegaaDoorVZ4
import Derived.Test.YtckppinobkkegaaDoorVZ5
