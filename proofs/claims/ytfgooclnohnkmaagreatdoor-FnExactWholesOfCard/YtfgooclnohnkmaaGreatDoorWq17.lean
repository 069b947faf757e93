/- Proved: several texts in one: what each proves is said ahead of it. -/
import Derived.Test.YtfgooclnohnkmaaGreatDoorWq07
import Derived.Test.YtfgooclnohnkmaaGreatDoorWq21
import Derived.Deep.RegionHeld3
