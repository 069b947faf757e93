/- Proved: several texts in one: what each proves is said ahead of it. -/
import Derived.Test.YtpebikjckhcgfaaDoorQ02
import Derived.Test.YtpebikjckhcgfaaDoorAppd
import Derived.Test.YtpebikjckhcgfaaDoorQ00
