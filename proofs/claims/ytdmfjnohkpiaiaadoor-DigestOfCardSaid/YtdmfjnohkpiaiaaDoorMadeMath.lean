/- Plain functions after the document's reckoning of roots by digits of 16 bits. No program is named here. -/
import Derived.Test.YtdmfjnohkpiaiaaDoorStepMath
namespace Go.Proofs.YtdmfjnohkpiaiaaDoor
set_option linter.unusedVariables false

def mulCol (out : List Int) (x : Int) (b : List Int) (i : Nat) : Nat → List Int
  | 0 => out
  | k + 1 => (mulCol out x b i k).set (i + k) (((mulCol out x b i k).getD (i + k) 0 + x * b.getD k 0) % 18446744073709551616)
def mulRow (a b : List Int) : Nat → List Int
  | 0 => List.replicate (a.length + b.length + 1) 0
  | i + 1 => mulCol (mulRow a b i) (a.getD i 0) b i b.length
def carry (o : List Int) : Nat → List Int
  | 0 => o
  | i + 1 => ((carry o i).set (i + 1) (((carry o i).getD (i + 1) 0 + (carry o i).getD i 0 / 65536) % 18446744073709551616)).set i ((carry o i).getD i 0 % 65536)
def timesL (a b : List Int) : List Int := carry (mulRow a b a.length) (a.length + b.length)
/-- From the place n - 1 down: is z below limit, or the same? -/
def cmpL (z limit : List Int) : Nat → Bool
  | 0 => true
  | n + 1 => if z.getD n 0 != limit.getD n 0 then decide (z.getD n 0 < limit.getD n 0) else cmpL z limit n
def digs (y : Int) : List Int := [y % 65536, y / 65536 % 65536, y / 4294967296]
def belowL (y p : Int) (cube : Bool) : Bool :=
  match cube with
  | true => cmpL (timesL (timesL (digs y) (digs y)) (digs y)) ((List.replicate 11 0).set 6 p) 11
  | false => cmpL (timesL (digs y) (digs y)) ((List.replicate 7 0).set 4 p) 7
/-- The search, n bits done: 36 bits, the greatest first. -/
def rootAt (p : Int) (cube : Bool) : Nat → Int
  | 0 => 0
  | n + 1 => if belowL (rootAt p cube n + 2 ^ (35 - n)) p cube then rootAt p cube n + 2 ^ (35 - n) else rootAt p cube n
def rootL (p : Int) (cube : Bool) : Int := rootAt p cube 36 % 4294967296
end Go.Proofs.YtdmfjnohkpiaiaaDoor
