/- The roots of the primes 32 to 47, reckoned: they are the constants. No program is named here. -/
import Derived.Test.YtdmfjnohkpiaiaaDoorPrimes
namespace Go.Proofs.YtdmfjnohkpiaiaaDoor
set_option maxRecDepth 100000
theorem kroot32 : rootL 137 true = kTab.getD 32 0 := by decide +kernel
theorem kroot33 : rootL 139 true = kTab.getD 33 0 := by decide +kernel
theorem kroot34 : rootL 149 true = kTab.getD 34 0 := by decide +kernel
theorem kroot35 : rootL 151 true = kTab.getD 35 0 := by decide +kernel
theorem kroot36 : rootL 157 true = kTab.getD 36 0 := by decide +kernel
theorem kroot37 : rootL 163 true = kTab.getD 37 0 := by decide +kernel
theorem kroot38 : rootL 167 true = kTab.getD 38 0 := by decide +kernel
theorem kroot39 : rootL 173 true = kTab.getD 39 0 := by decide +kernel
theorem kroot40 : rootL 179 true = kTab.getD 40 0 := by decide +kernel
theorem kroot41 : rootL 181 true = kTab.getD 41 0 := by decide +kernel
theorem kroot42 : rootL 191 true = kTab.getD 42 0 := by decide +kernel
theorem kroot43 : rootL 193 true = kTab.getD 43 0 := by decide +kernel
theorem kroot44 : rootL 197 true = kTab.getD 44 0 := by decide +kernel
theorem kroot45 : rootL 199 true = kTab.getD 45 0 := by decide +kernel
theorem kroot46 : rootL 211 true = kTab.getD 46 0 := by decide +kernel
theorem kroot47 : rootL 223 true = kTab.getD 47 0 := by decide +kernel
end Go.Proofs.YtdmfjnohkpiaiaaDoor
