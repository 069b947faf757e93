/- Proved: several texts in one: what each proves is said ahead of it. -/
import Derived.Test.YtpoogglplaeooaaDoorTa13
import Derived.Test.YtpoogglplaeooaaDoorTa04
import Derived.Test.YtpoogglplaeooaaDoorTa19
import Derived.Test.YtpoogglplaeooaaDoorTa16
import Derived.Test.YtpoogglplaeooaaDoorTa24
