/- Proved: several texts in one: what each proves is said ahead of it. -/
import Derived.Test.YtpoogglplaeooaaDoorTb13
import Derived.Test.YtpoogglplaeooaaDoorTb04
import Derived.Test.YtpoogglplaeooaaDoorTb19
import Derived.Test.YtpoogglplaeooaaDoorTb16
import Derived.Test.YtpoogglplaeooaaDoorTb24
