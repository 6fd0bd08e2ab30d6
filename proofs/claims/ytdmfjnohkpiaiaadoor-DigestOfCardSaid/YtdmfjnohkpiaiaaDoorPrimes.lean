/- The first 64 primes, as the document seeks them. No program is named here. -/
import Derived.Test.YtdmfjnohkpiaiaaDoorMadeMath
namespace Go.Proofs.YtdmfjnohkpiaiaaDoor
set_option linter.unusedVariables false
set_option maxRecDepth 100000

def allNe (k : Int) (l : List Int) : Nat → Bool
  | 0 => true
  | i + 1 => allNe k l i && (k % l.getD i 0 != 0)
/-- What was found when the numbers up to n + 1 were tried. -/
def sieve : Nat → List Int
  | 0 => []
  | n + 1 => match sieve n with
    | l => if allNe (n + 2 : Nat) l l.length then l ++ [((n + 2 : Nat) : Int)] else l
def primes : List Int := [2, 3, 5, 7, 11, 13, 17, 19, 23, 29, 31, 37, 41, 43, 47, 53, 59, 61, 67, 71, 73, 79, 83, 89, 97, 101, 103, 107, 109, 113, 127, 131, 137, 139, 149, 151, 157, 163, 167, 173, 179, 181, 191, 193, 197, 199, 211, 223, 227, 229, 233, 239, 241, 251, 257, 263, 269, 271, 277, 281, 283, 293, 307, 311]
theorem sieve_all : sieve 310 = primes := by decide +kernel
theorem sieve_short : ∀ n, n < 310 → (sieve n).length < 64 := by
  have h : (List.range 310).all (fun n => decide ((sieve n).length < 64)) = true := by decide +kernel
  intro n hn
  have := List.all_eq_true.1 h n (List.mem_range.2 hn)
  exact of_decide_eq_true this
theorem sieve_ok : ∀ n, n ≤ 310 → ∀ z ∈ sieve n, 2 ≤ z ∧ z ≤ 1000 := by
  have h : (List.range 311).all (fun n => (sieve n).all (fun z => decide (2 ≤ z ∧ z ≤ 1000))) = true := by decide +kernel
  intro n hn z hz
  have h1 := List.all_eq_true.1 h n (List.mem_range.2 (by omega))
  have h2 := List.all_eq_true.1 h1 z hz
  exact of_decide_eq_true h2
theorem sieve_next (n : Nat) : sieve (n + 1) = if allNe (n + 2 : Nat) (sieve n) (sieve n).length then sieve n ++ [((n + 2 : Nat) : Int)] else sieve n := rfl
end Go.Proofs.YtdmfjnohkpiaiaaDoor
