/- Proved: the table of the primes from 64 to 255, by reckoning in the kernel; no program in sight. -/
import Derived.Test.YtfgooclnohnkmaaGreatDoorSieve
namespace Go.Proofs.YtfgooclnohnkmaaGreatDoor.F1
theorem tab64 : allT chkQ 4 64 = true := by decide +kernel
theorem tab80 : allT chkQ 4 80 = true := by decide +kernel
theorem tab96 : allT chkQ 5 96 = true := by decide +kernel
theorem tab128 : allT chkQ 7 128 = true := by decide +kernel
end Go.Proofs.YtfgooclnohnkmaaGreatDoor.F1
