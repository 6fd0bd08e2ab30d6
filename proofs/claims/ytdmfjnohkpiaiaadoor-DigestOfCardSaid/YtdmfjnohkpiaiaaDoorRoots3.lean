/- The roots of the primes 48 to 63, reckoned: they are the constants. No program is named here. -/
import Derived.Test.YtdmfjnohkpiaiaaDoorPrimes
namespace Go.Proofs.YtdmfjnohkpiaiaaDoor
set_option maxRecDepth 100000
theorem kroot48 : rootL 227 true = kTab.getD 48 0 := by decide +kernel
theorem kroot49 : rootL 229 true = kTab.getD 49 0 := by decide +kernel
theorem kroot50 : rootL 233 true = kTab.getD 50 0 := by decide +kernel
theorem kroot51 : rootL 239 true = kTab.getD 51 0 := by decide +kernel
theorem kroot52 : rootL 241 true = kTab.getD 52 0 := by decide +kernel
theorem kroot53 : rootL 251 true = kTab.getD 53 0 := by decide +kernel
theorem kroot54 : rootL 257 true = kTab.getD 54 0 := by decide +kernel
theorem kroot55 : rootL 263 true = kTab.getD 55 0 := by decide +kernel
theorem kroot56 : rootL 269 true = kTab.getD 56 0 := by decide +kernel
theorem kroot57 : rootL 271 true = kTab.getD 57 0 := by decide +kernel
theorem kroot58 : rootL 277 true = kTab.getD 58 0 := by decide +kernel
theorem kroot59 : rootL 281 true = kTab.getD 59 0 := by decide +kernel
theorem kroot60 : rootL 283 true = kTab.getD 60 0 := by decide +kernel
theorem kroot61 : rootL 293 true = kTab.getD 61 0 := by decide +kernel
theorem kroot62 : rootL 307 true = kTab.getD 62 0 := by decide +kernel
theorem kroot63 : rootL 311 true = kTab.getD 63 0 := by decide +kernel
end Go.Proofs.YtdmfjnohkpiaiaaDoor
