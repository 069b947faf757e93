/- Proved: the program's two rows, number by number. -/
import Derived.Test.YtinldhoimnbkhaaGreatDoorZd11
import Derived.Test.YtinldhoimnbkhaaGreatDoorZd12
import Derived.Deep.RegionHeld3
import Derived.Test.YtinldhoimnbkhaaGreatDoorZd09
