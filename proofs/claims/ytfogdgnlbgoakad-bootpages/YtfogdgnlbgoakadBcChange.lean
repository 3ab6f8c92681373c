/-
  OWN TEXT. Contracts of the code: Add, Remove, Reserve, Free.
-/
import Derived.Test.YtfogdgnlbgoakadBcAdd
import Derived.Test.YtfogdgnlbgoakadBcRemove
import Derived.Test.YtfogdgnlbgoakadBcReserve
import Derived.Test.YtfogdgnlbgoakadBcFree
