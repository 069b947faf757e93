/- Proved: append onto an empty slice of what lies in a slice of a named type, as one step of a region that draws its order. -/
import Derived.Test.YtpebikjckhcgfaaDoorQ00
import Derived.Deep.RegionLawGrows
