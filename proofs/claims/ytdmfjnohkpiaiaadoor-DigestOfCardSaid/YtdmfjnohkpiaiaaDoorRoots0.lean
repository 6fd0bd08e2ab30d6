/- The roots of the primes 0 to 15, reckoned: they are the constants. No program is named here. -/
import Derived.Test.YtdmfjnohkpiaiaaDoorPrimes
namespace Go.Proofs.YtdmfjnohkpiaiaaDoor
set_option maxRecDepth 100000
theorem kroot0 : rootL 2 true = kTab.getD 0 0 := by decide +kernel
theorem kroot1 : rootL 3 true = kTab.getD 1 0 := by decide +kernel
theorem kroot2 : rootL 5 true = kTab.getD 2 0 := by decide +kernel
theorem kroot3 : rootL 7 true = kTab.getD 3 0 := by decide +kernel
theorem kroot4 : rootL 11 true = kTab.getD 4 0 := by decide +kernel
theorem kroot5 : rootL 13 true = kTab.getD 5 0 := by decide +kernel
theorem kroot6 : rootL 17 true = kTab.getD 6 0 := by decide +kernel
theorem kroot7 : rootL 19 true = kTab.getD 7 0 := by decide +kernel
theorem kroot8 : rootL 23 true = kTab.getD 8 0 := by decide +kernel
theorem kroot9 : rootL 29 true = kTab.getD 9 0 := by decide +kernel
theorem kroot10 : rootL 31 true = kTab.getD 10 0 := by decide +kernel
theorem kroot11 : rootL 37 true = kTab.getD 11 0 := by decide +kernel
theorem kroot12 : rootL 41 true = kTab.getD 12 0 := by decide +kernel
theorem kroot13 : rootL 43 true = kTab.getD 13 0 := by decide +kernel
theorem kroot14 : rootL 47 true = kTab.getD 14 0 := by decide +kernel
theorem kroot15 : rootL 53 true = kTab.getD 15 0 := by decide +kernel
theorem hroot0 : rootL 2 false = hTab.getD 0 0 := by decide +kernel
theorem hroot1 : rootL 3 false = hTab.getD 1 0 := by decide +kernel
theorem hroot2 : rootL 5 false = hTab.getD 2 0 := by decide +kernel
theorem hroot3 : rootL 7 false = hTab.getD 3 0 := by decide +kernel
theorem hroot4 : rootL 11 false = hTab.getD 4 0 := by decide +kernel
theorem hroot5 : rootL 13 false = hTab.getD 5 0 := by decide +kernel
theorem hroot6 : rootL 17 false = hTab.getD 6 0 := by decide +kernel
theorem hroot7 : rootL 19 false = hTab.getD 7 0 := by decide +kernel
end Go.Proofs.YtdmfjnohkpiaiaaDoor
