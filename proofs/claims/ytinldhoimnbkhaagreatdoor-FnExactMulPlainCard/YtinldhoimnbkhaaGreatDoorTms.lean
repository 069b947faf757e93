/- Proved: the program's product of two rows of a ring. -/
import Derived.Test.YtinldhoimnbkhaaGreatDoorZc14
