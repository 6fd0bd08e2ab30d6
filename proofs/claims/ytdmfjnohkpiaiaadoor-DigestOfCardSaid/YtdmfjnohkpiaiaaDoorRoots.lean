/- All the roots. No program is named here. -/
import Derived.Test.YtdmfjnohkpiaiaaDoorRoots0
import Derived.Test.YtdmfjnohkpiaiaaDoorRoots1
import Derived.Test.YtdmfjnohkpiaiaaDoorRoots2
import Derived.Test.YtdmfjnohkpiaiaaDoorRoots3
namespace Go.Proofs.YtdmfjnohkpiaiaaDoor
set_option maxRecDepth 100000
theorem kroots (i : Nat) (h : i < 64) : rootL (primes.getD i 0) true = kTab.getD i 0 := by
  match i, h with
  | 0, _ => exact kroot0
  | 1, _ => exact kroot1
  | 2, _ => exact kroot2
  | 3, _ => exact kroot3
  | 4, _ => exact kroot4
  | 5, _ => exact kroot5
  | 6, _ => exact kroot6
  | 7, _ => exact kroot7
  | 8, _ => exact kroot8
  | 9, _ => exact kroot9
  | 10, _ => exact kroot10
  | 11, _ => exact kroot11
  | 12, _ => exact kroot12
  | 13, _ => exact kroot13
  | 14, _ => exact kroot14
  | 15, _ => exact kroot15
  | 16, _ => exact kroot16
  | 17, _ => exact kroot17
  | 18, _ => exact kroot18
  | 19, _ => exact kroot19
  | 20, _ => exact kroot20
  | 21, _ => exact kroot21
  | 22, _ => exact kroot22
  | 23, _ => exact kroot23
  | 24, _ => exact kroot24
  | 25, _ => exact kroot25
  | 26, _ => exact kroot26
  | 27, _ => exact kroot27
  | 28, _ => exact kroot28
  | 29, _ => exact kroot29
  | 30, _ => exact kroot30
  | 31, _ => exact kroot31
  | 32, _ => exact kroot32
  | 33, _ => exact kroot33
  | 34, _ => exact kroot34
  | 35, _ => exact kroot35
  | 36, _ => exact kroot36
  | 37, _ => exact kroot37
  | 38, _ => exact kroot38
  | 39, _ => exact kroot39
  | 40, _ => exact kroot40
  | 41, _ => exact kroot41
  | 42, _ => exact kroot42
  | 43, _ => exact kroot43
  | 44, _ => exact kroot44
  | 45, _ => exact kroot45
  | 46, _ => exact kroot46
  | 47, _ => exact kroot47
  | 48, _ => exact kroot48
  | 49, _ => exact kroot49
  | 50, _ => exact kroot50
  | 51, _ => exact kroot51
  | 52, _ => exact kroot52
  | 53, _ => exact kroot53
  | 54, _ => exact kroot54
  | 55, _ => exact kroot55
  | 56, _ => exact kroot56
  | 57, _ => exact kroot57
  | 58, _ => exact kroot58
  | 59, _ => exact kroot59
  | 60, _ => exact kroot60
  | 61, _ => exact kroot61
  | 62, _ => exact kroot62
  | 63, _ => exact kroot63
  | n + 64, h => omega
theorem hroots (i : Nat) (h : i < 8) : rootL (primes.getD i 0) false = hTab.getD i 0 := by
  match i, h with
  | 0, _ => exact hroot0
  | 1, _ => exact hroot1
  | 2, _ => exact hroot2
  | 3, _ => exact hroot3
  | 4, _ => exact hroot4
  | 5, _ => exact hroot5
  | 6, _ => exact hroot6
  | 7, _ => exact hroot7
  | n + 8, h => omega
end Go.Proofs.YtdmfjnohkpiaiaaDoor
