/- Proved: several texts in one: what each proves is said ahead of it. -/
import Derived.Test.YtpoogglplaeooaaDoorTb07
import Derived.KernelRfl
