/- Proved: the program's two rows, number by number. -/
import Derived.Test.YtinldhoimnbkhaaGreatDoorZc12
import Derived.Test.YtinldhoimnbkhaaGreatDoorZc13
import Derived.Deep.RegionHeld3
import Derived.Test.YtinldhoimnbkhaaGreatDoorZc09
