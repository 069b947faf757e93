/- Proved: the table of the primes from 256 to 16383, by reckoning in the kernel; no program in sight. -/
import Derived.Test.YtfgooclnohnkmaaGreatDoorSieve
namespace Go.Proofs.YtfgooclnohnkmaaGreatDoor.F1
theorem tab256 : allT chkQ 8 256 = true := by decide +kernel
theorem tab512 : allT chkQ 9 512 = true := by decide +kernel
theorem tab1024 : allT chkQ 10 1024 = true := by decide +kernel
theorem tab2048 : allT chkQ 11 2048 = true := by decide +kernel
theorem tab4096 : allT chkQ 12 4096 = true := by decide +kernel
theorem tab8192 : allT chkQ 13 8192 = true := by decide +kernel
end Go.Proofs.YtfgooclnohnkmaaGreatDoor.F1
