/- Proved: several texts in one: what each proves is said ahead of it. -/
import Derived.Test.YtfgooclnohnkmaaGreatDoorWq17
import Derived.Test.YtfgooclnohnkmaaGreatDoorGoodI
import Derived.Test.YtfgooclnohnkmaaGreatDoorWq08
import Derived.Test.YtfgooclnohnkmaaGreatDoorWq35
import Derived.Deep.RegionHeld3
