/- The roots of the primes 16 to 31, reckoned: they are the constants. No program is named here. -/
import Derived.Test.YtdmfjnohkpiaiaaDoorPrimes
namespace Go.Proofs.YtdmfjnohkpiaiaaDoor
set_option maxRecDepth 100000
theorem kroot16 : rootL 59 true = kTab.getD 16 0 := by decide +kernel
theorem kroot17 : rootL 61 true = kTab.getD 17 0 := by decide +kernel
theorem kroot18 : rootL 67 true = kTab.getD 18 0 := by decide +kernel
theorem kroot19 : rootL 71 true = kTab.getD 19 0 := by decide +kernel
theorem kroot20 : rootL 73 true = kTab.getD 20 0 := by decide +kernel
theorem kroot21 : rootL 79 true = kTab.getD 21 0 := by decide +kernel
theorem kroot22 : rootL 83 true = kTab.getD 22 0 := by decide +kernel
theorem kroot23 : rootL 89 true = kTab.getD 23 0 := by decide +kernel
theorem kroot24 : rootL 97 true = kTab.getD 24 0 := by decide +kernel
theorem kroot25 : rootL 101 true = kTab.getD 25 0 := by decide +kernel
theorem kroot26 : rootL 103 true = kTab.getD 26 0 := by decide +kernel
theorem kroot27 : rootL 107 true = kTab.getD 27 0 := by decide +kernel
theorem kroot28 : rootL 109 true = kTab.getD 28 0 := by decide +kernel
theorem kroot29 : rootL 113 true = kTab.getD 29 0 := by decide +kernel
theorem kroot30 : rootL 127 true = kTab.getD 30 0 := by decide +kernel
theorem kroot31 : rootL 131 true = kTab.getD 31 0 := by decide +kernel
end Go.Proofs.YtdmfjnohkpiaiaaDoor
