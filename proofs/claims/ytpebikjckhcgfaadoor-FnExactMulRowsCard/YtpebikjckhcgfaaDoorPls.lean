/- Proved: the program's two rows, number by number. -/
import Derived.Test.YtpebikjckhcgfaaDoorQ15
import Derived.Test.YtpebikjckhcgfaaDoorQ16
