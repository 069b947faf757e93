/- Proved: the drawn region of the program's reckonerOf: params, rings and their product laid in a box. -/
import Derived.Test.YtpebikjckhcgfaaDoorQ14
import Derived.Test.YtpebikjckhcgfaaDoorQ04
import Derived.Test.YtpebikjckhcgfaaDoorQ27
