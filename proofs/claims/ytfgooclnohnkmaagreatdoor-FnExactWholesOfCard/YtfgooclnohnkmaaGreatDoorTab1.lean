/- Proved: the table of the primes from 41 to 63, by reckoning in the kernel; no program in sight. -/
import Derived.Test.YtfgooclnohnkmaaGreatDoorSieve
namespace Go.Proofs.YtfgooclnohnkmaaGreatDoor.F1
theorem tab41 : allT chkQ 0 41 = true := by decide +kernel
theorem tab42 : allT chkQ 1 42 = true := by decide +kernel
theorem tab44 : allT chkQ 2 44 = true := by decide +kernel
theorem tab48 : allT chkQ 3 48 = true := by decide +kernel
theorem tab56 : allT chkQ 3 56 = true := by decide +kernel
end Go.Proofs.YtfgooclnohnkmaaGreatDoor.F1
