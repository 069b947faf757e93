/- Proved: several texts in one: what each proves is said ahead of it. -/
import Derived.Test.YtpoogglplaeooaaDoorTa16
import Derived.Deep.RegionWith
import Derived.Test.YtpoogglplaeooaaDoorTa13
